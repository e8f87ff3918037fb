/- cache.Cache's Put where the key is there; IndexFunc, ContainsFunc over frames; New. Conditions: lengths. -/
import Derived.Test.YthmaofbnhfgfaaaCmD
import Derived.Test.YthmaofbnhfgfaaaApZ
import Derived.Laws.CopyRow
import Derived.Laws.Rows
import Derived.Laws.Tables
namespace Go.Proofs.Ythmaofbnhfgfaaa
set_option linter.unusedVariables false
set_option linter.unusedSimpArgs false
open Go.RowKit Go.Maps
set_option maxRecDepth 100000
set_option maxHeartbeats 4000000
theorem srow_below {w : World} {B g : Nat} (hB : B ≤ g) (cs : Array Value) : Below B w (w.setRow g cs) :=
  ⟨rfl, rfl, rfl, by simp, fun k hk => setRow_other w g k cs (by omega)⟩
theorem srow_bk {w : World} {g : Nat} {E : TypeId} {old cs : Array Value} (h : Bk w g E old) : Bk (w.setRow g cs) g E cs := setRow_heap w g old cs E (0, 0) h
theorem srow_kept (w : World) (g : Nat) (cs : Array Value) : Kept (fun k => k = g) w (w.setRow g cs) := ⟨rfl, rfl, rfl, by simp, fun k _ hk => setRow_other w g k cs hk⟩
/-- A store of a whole row. -/
theorem wp_stR {P : Program} {ops : Array Oper} {rest : List Oper} {o : Oper} {a : Act} {w : World} {Q : Exit → Act → World → Prop} (hg : o.guard = none) (T : TypeId) (x y : Operand) (ho : o.op = .store T x y) (g : Nat) (cs : Array Value) (hx : a.eval x = .pointer (some ⟨g, 0, none⟩)) (hy : a.eval y = .agg cs) (E : TypeId) (old : Array Value) (hb : Bk w g E old)
    (hi : (P.info? T).map (·.size) = some cs.size) (hold : old.size = cs.size) (h1 : cs.all (·.oneCell') = true)
    (h : ∀ w', Bk w' g E cs → (∀ B, B ≤ g → Below B w w') → Kept (fun k => k = g) w w' → wpList P ops Q rest (a.put o.dst undef) w') : wpList P ops Q (o :: rest) a w :=
  wpList_store_row hg T x y ho g cs hx hy E old hb hi hold h1 (h _ (setRow_heap w g old cs E (0, 0) hb) (fun B hB => srow_below hB cs) (srow_kept w g cs))
/-- A store of a frame into a row of frames. -/
theorem wp_stF {ops : Array Oper} {rest : List Oper} {o : Oper} {a : Act} {w : World} {Q : Exit → Act → World → Prop} (hg : o.guard = none) (x y : Operand) (ho : o.op = .store 52 x y) (g i : Nat) (f' : Fr)
    (hx : a.eval x = .pointer (some ⟨g, i * 7, none⟩)) (hy : a.eval y = .agg f'.cs.toArray) (E : TypeId) (fs : List Fr) (hb : Bk w g E (fcA fs)) (hi : i < fs.length)
    (h : ∀ w', Bk w' g E (fcA (fs.set i f')) → (∀ B, B ≤ g → Below B w w') → Kept (fun k => k = g) w w' → wpList Try.prog ops Q rest (a.put o.dst undef) w') : wpList Try.prog ops Q (o :: rest) a w := by
  refine wpList_plain hg fun K' hK' => ?_
  have hcl : (fcA fs).toList = fs.flatMap Fr.cs := by unfold fcA; simp
  have hl : i * 7 + 7 ≤ (fcA fs).size := by
    unfold fcA
    rw [List.size_toArray, fc_len]
    omega
  have hs := run_storeCells_at (P := Try.prog) g (i * 7) E f'.cs 0 (fcA fs) w hb (by show i * 7 + 0 + 7 ≤ _; omega) (fun v hv => by
    unfold Fr.cs at hv
    simp only [List.mem_cons, List.not_mem_nil, or_false] at hv
    rcases hv with rfl | rfl | rfl | rfl | rfl | rfl | rfl <;> rfl)
  have e : ((fcA fs).toList.take (i * 7 + 0) ++ f'.cs ++ (fcA fs).toList.drop (i * 7 + 0 + f'.cs.length)).toArray = fcA (fs.set i f') := by
    rw [hcl]
    unfold fcA
    rw [← fc_all fs i hi f']
    rfl
  rw [e] at hs
  have hst : (storeVar 52 ⟨g, i * 7, none⟩ (.agg f'.cs.toArray)).run Try.prog w = .ok () (w.setRow g (fcA (fs.set i f'))) := by
    have hi : (Try.prog.info? 52).map (·.size) = some 7 := by kernel_rfl
    have h7 : f'.cs.toArray.size = 7 := rfl
    cases hq : Try.prog.info? 52 with
    | none => simp [hq] at hi
    | some ii =>
      have hsz : ii.size = 7 := by simpa [hq] using hi
      simp [storeVar, sizeOf, typeInfo, hq, Value.cells, hsz, h7, hs]
  unfold Oper.wp execOp
  simp only [ho, hx, hy, Instr.storeAt, Instr.sureAddr, Sem.run_bind, Sem.run_pure, Result.andThen_ok, hst]
  exact hK' _ _ (h _ (srow_bk hb) (fun B hB => srow_below hB _) (srow_kept w g _))
theorem Bk.five {w : World} {g : Nat} {E : TypeId} (k : Bk w g E #[.int .i64 0, .int .i64 0, .slice none 0 0, .bool false, .bool false]) : w.cell? ⟨g, 0, none⟩ = some (.int .i64 0) ∧ w.cell? ⟨g, 1, none⟩ = some (.int .i64 0) ∧ w.cell? ⟨g, 2, none⟩ = some (.slice none 0 0) ∧ w.cell? ⟨g, 3, none⟩ = some (.bool false) ∧ w.cell? ⟨g, 4, none⟩ = some (.bool false) := ⟨k.cell 0, k.cell 1, k.cell 2, k.cell 3, k.cell 4⟩
def outC : Array Value := #[.int .i64 0, .int .i64 0, .slice none 0 0, .bool false, .bool false]
def outZ : Value := .agg #[.int .i64 0, .int .i64 0, .slice none 0 0, .bool false, .bool false]
section
variable {W : World} {g fb mb N i : Nat} {fs : List Fr} {f1 : Fr} {hand : Nat} {tb : Tk} {ho : Option Nat}
theorem CaAt.lows {fs : List Fr} (h : CaAt W g fb mb N fs hand tb ho) : ∀ f ∈ fs, ∀ a, f.A = some a → f.b ≠ [] → a.block < W.heap.size := fun f hf a e hb => by
  obtain ⟨ad, e1, e2, _⟩ := (h.data f hf).1 0 (List.length_pos_iff.2 hb)
  rw [e] at e1; injection e1 with e1; rw [e1]; exact e2
theorem CaAt.cells1 (h : CaAt W g fb mb N (fs.set i f1) hand tb ho) (hi : i < fs.length) :
    W.cell? ⟨fb, i * 7, none⟩ = some (.int .i64 f1.k.1) ∧ W.cell? ⟨fb, i * 7 + 1, none⟩ = some (.int .i64 f1.k.2) ∧ W.cell? ⟨fb, i * 7 + 2, none⟩ = some (.bool f1.full) ∧ W.cell? ⟨fb, i * 7 + 3, none⟩ = some (.slice f1.A f1.b.length f1.c) ∧ W.cell? ⟨fb, i * 7 + 4, none⟩ = some (.bool f1.dirty) ∧ W.cell? ⟨fb, i * 7 + 5, none⟩ = some (.int .i64 f1.pins) ∧ W.cell? ⟨fb, i * 7 + 6, none⟩ = some (.bool f1.mrk) := by
  have := h.cells (i := i) (by rw [List.length_set]; exact hi)
  rw [List.getElem_set_self] at this
  exact this
theorem CaAt.st1 (h : CaAt W g fb mb N (fs.set i f1) hand tb ho) (hi : i < fs.length) (j : Nat) (hj : j < 7) (v : Value) (f' : Fr) (he : f'.cs = f1.cs.set j v) (e1 : f'.full = f1.full) (e2 : f'.k = f1.k)
    (hd : Rd b8 W W.heap.size f'.A f'.b ∧ f'.b.length ≤ 1000000 ∧ ∀ a, f'.A = some a → f'.b ≠ [] → a.block ≠ g ∧ a.block ≠ fb ∧ a.block ≠ mb) (hp : f'.pins ≤ 1000000) : CaAt (W.setCell ⟨fb, i * 7 + j, none⟩ v) g fb mb N (fs.set i f') hand tb ho ∧ Kept (fun k => k = fb) W (W.setCell ⟨fb, i * 7 + j, none⟩ v) := by
  have hi2 : i < (fs.set i f1).length := by rw [List.length_set]; exact hi
  have hg : (fs.set i f1)[i] = f1 := List.getElem_set_self _
  have := h.st i hi2 j hj v f' (by rw [hg]; exact he) (by rw [hg]; exact e1) (by rw [hg]; exact e2) hd hp
  rw [List.set_set] at this
  exact this
theorem CaAt.dat1 (h : CaAt W g fb mb N (fs.set i f1) hand tb ho) (hi : i < fs.length) : (Rd b8 W W.heap.size f1.A f1.b ∧ f1.b.length ≤ 1000000 ∧ ∀ a, f1.A = some a → f1.b ≠ [] → a.block ≠ g ∧ a.block ≠ fb ∧ a.block ≠ mb) ∧ f1.pins ≤ 1000000 := by
  have hi2 : i < (fs.set i f1).length := by rw [List.length_set]; exact hi
  have hg : (fs.set i f1)[i] = f1 := List.getElem_set_self _
  have h1 := h.dat hi2
  have h2 := h.pl _ (List.getElem_mem hi2)
  rw [hg] at h1 h2
  exact ⟨h1, h2⟩
end
theorem put_res {tmps : Array Value} {W : World} {g : Nat} {E : TypeId} {cs : Array Value} {y : Value} (hs : cs.size = 5) (hb : Bk W g E cs) (h2 : tmps.getD 8 undef = .pointer (some ⟨g, 0, none⟩)) (h3 : tmps.getD 9 undef = y) :
    (results Try.f8 tmps).run Try.prog W = .ok (.tuple #[.agg cs, y]) W := by
  have hl := run_loadVar_row (P := Try.prog) W g E 32 cs (0, 0) _ hb Try.underlying32 rfl (by rw [hs]; kernel_rfl)
  have h2' : tmps[8]?.getD undef = .pointer (some ⟨g, 0, none⟩) := by simpa using h2
  have h3' : tmps[9]?.getD undef = y := by simpa using h3
  simp [results, Try.results8, h2', h3', asAddr, hl]
theorem room_res {tmps : Array Value} {W : World} {g : Nat} {E : TypeId} {cs : Array Value} {x y : Value} (hs : cs.size = 5) (hb : Bk W g E cs) (h1 : tmps.getD 2 undef = x) (h2 : tmps.getD 3 undef = .pointer (some ⟨g, 0, none⟩)) (h3 : tmps.getD 4 undef = y) :
    (results Try.f17 tmps).run Try.prog W = .ok (.tuple #[x, .agg cs, y]) W := by
  have hl := run_loadVar_row (P := Try.prog) W g E 32 cs (0, 0) _ hb Try.underlying32 rfl (by rw [hs]; kernel_rfl)
  have h1' : tmps[2]?.getD undef = x := by simpa using h1
  have h2' : tmps[3]?.getD undef = .pointer (some ⟨g, 0, none⟩) := by simpa using h2
  have h3' : tmps[4]?.getD undef = y := by simpa using h3
  simp [results, Try.results17, h1', h2', h3', asAddr, hl]
def Fr.put (f : Fr) (bs : List (BitVec 8)) (dirty : Bool) (A : Option Addr) (c : Nat) : Fr := { f with b := bs, dirty := f.dirty || dirty, mrk := true, A := A, c := c }
section
variable {w : World} {g fb mb N : Nat} {fs : List Fr} {hand : Nat} {tb : Tk}
theorem put_hit (h : CaAt w g fb mb N fs hand tb none) (k : K2) (hk : kW k) (i : Nat) (hi : i < fs.length) (hf : fs[i].full = true) (hkk : fs[i].k = k) (A : Option Addr) (bs : List (BitVec 8)) (n c : Nat) (hn : n = bs.length) (hl : n ≤ 1000000) (hr : Rd b8 w w.heap.size A bs) (dirty : Bool) :
    Calls Try.prog 8 #[.pointer (some ⟨g, 0, none⟩), .agg #[.int .i64 k.1, .int .i64 k.2], .slice A n c, .bool dirty] w fun e w' => ∃ A2 c2, e = .returned (.tuple #[outZ, .int .i64 0]) ∧ CaAt w' g fb mb N (fs.set i (fs[i].put bs dirty A2 c2)) hand tb none ∧ Kept (Cx g fb mb) w w' := by
  have hv : vOf tb k = some (i : Int) := by have := h.c1 i hi (by simp) hf; rw [hkk] at this; exact this
  obtain ⟨kx, ky⟩ := k
  obtain ⟨W1, hW1⟩ : ∃ W, W = (w.alloc (.cells #[.int .i64 kx, .int .i64 ky] 29)).alloc (.cells #[.int .i64 0, .int .i64 0, .slice none 0 0, .bool false, .bool false] 32) := ⟨_, rfl⟩
  have hb : Below w.heap.size w W1 := by rw [hW1]; exact (Gw.alloc w _).trans ((Gw.alloc _ _).mono (by simp))
  have hz : Bk W1 (w.heap.size + 1) 32 #[.int .i64 0, .int .i64 0, .slice none 0 0, .bool false, .bool false] := by
    rw [hW1]
    have := Bk.new (w.alloc (.cells #[.int .i64 kx, .int .i64 ky] 29)) 32 #[.int .i64 0, .int .i64 0, .slice none 0 0, .bool false, .bool false]
    simpa using this
  have h1 := h.below hb
  have HA := Lib.hid (at_some h1 (kx, ky) hk i (by rw [h.n]; exact hi) hv)
  rw [hW1] at HA
  have H1 := Lib.hid h1
  have HB := Lib.hid hb
  have HZ := Lib.hid hz
  have HD := Lib.hid h.lows
  have HS1 := Lib.hid (show W1.heap.size = w.heap.size + 2 from by rw [hW1]; simp)
  obtain ⟨f, hfe⟩ : ∃ f, f = fs[i] := ⟨_, rfl⟩
  rw [← hfe]
  have HF := Lib.hid hfe
  have HR := Lib.hid (show Rd b8 W1 W1.heap.size A bs from (hr.below hb).more hb.size)
  have HN := Lib.hid (And.intro hn hl)
  have HW1 := Lib.hid hW1
  clear h h1 hb hv hf hkk hfe hr hn hl hz hW1
  go_enter Try.func8, Try.ntmps8
  go_wp2_with fail
  refine Calls.mono HA.out ?_
  rintro e w2 ⟨rfl, b2⟩
  rw [← HW1.out] at b2
  have h2 := H1.out.below b2
  have HC := Lib.hid (clone_c bs A n c HN.out.1 w2 ((HR.out.below b2).more b2.size) (by have := HN.out.2; omega))
  have H2 := Lib.hid (And.intro h2 b2)
  clear h2 b2 HA
  go_wp2_with fail
  refine Calls.mono HC.out ?_
  rintro e w3 ⟨A2, c2, rfl, hr2, ha2, b3⟩
  have h3 := H2.out.1.below b3
  have hl2 : ∀ a, A2 = some a → bs ≠ [] → a.block ≠ g ∧ a.block ≠ fb ∧ a.block ≠ mb := fun a e _ => by
    have := (ha2 a e).1
    have h1 := H2.out.1.blk.lt
    have h2 := H2.out.1.fr.lt
    have h3 := H2.out.1.map.lt
    omega
  have c3 : w3.cell? ⟨fb, i * 7 + 3, none⟩ = some (.slice f.A f.b.length f.c) := by have := (h3.cells hi).2.2.2.1; rw [← HF.out] at this; exact this
  have r3 := h3.fr.free (i * 7 + 3)
  obtain ⟨h4, k4⟩ := h3.st i hi 3 (by decide) (.slice A2 n c2) { f with b := bs, A := A2, c := c2 } (by rw [← HF.out, HN.out.1]; rfl) (by rw [← HF.out]) (by rw [← HF.out]) ⟨hr2, by have := HN.out; show bs.length ≤ _; omega, hl2⟩ (by have := h3.pl _ (List.getElem_mem hi); rw [← HF.out] at this; exact this)
  have hz3 := (HZ.out.below H2.out.2 HZ.out.lt).below b3 (by have := H2.out.2.size; have := HZ.out.lt; omega)
  have hne : ¬ (w.heap.size + 1 = fb) := fun e => by
    have h5 := h3.fr
    unfold Bk at h5
    unfold Bk at hz3
    rw [← e, hz3] at h5
    injection h5 with h5
    injection h5 with h5 h6
    cases h6
  have c4 : (w3.setCell ⟨fb, i * 7 + 3, none⟩ (.slice A2 n c2)).cell? ⟨fb, i * 7 + 4, none⟩ = some (.bool f.dirty) := (h4.cells1 hi).2.2.2.2.1
  have r4 := h4.fr.free (i * 7 + 4)
  obtain ⟨W4, hW4⟩ : ∃ W, W = w3.setCell ⟨fb, i * 7 + 3, none⟩ (.slice A2 n c2) := ⟨_, rfl⟩
  have HW4 := Lib.hid hW4
  rw [← hW4] at h4 k4
  obtain ⟨h5, k5⟩ := h4.st1 hi 4 (by decide) (.bool (f.dirty || dirty)) { f with b := bs, A := A2, c := c2, dirty := f.dirty || dirty } rfl rfl rfl (h4.dat1 hi).1 (h4.dat1 hi).2
  have c6 : (W4.setCell ⟨fb, i * 7 + 4, none⟩ (.bool (f.dirty || dirty))).cell? ⟨fb, i * 7 + 6, none⟩ = some (.bool f.mrk) := (h5.cells1 hi).2.2.2.2.2.2
  have r6 := h5.fr.free (i * 7 + 6)
  obtain ⟨W5, hW5⟩ : ∃ W, W = W4.setCell ⟨fb, i * 7 + 4, none⟩ (.bool (f.dirty || dirty)) := ⟨_, rfl⟩
  rw [← hW5] at h5 k5
  obtain ⟨h6, k6⟩ := h5.st1 hi 6 (by decide) (.bool true) (f.put bs dirty A2 c2) rfl rfl rfl (h5.dat1 hi).1 (h5.dat1 hi).2
  obtain ⟨W6, hW6⟩ : ∃ W, W = W5.setCell ⟨fb, i * 7 + 6, none⟩ (.bool true) := ⟨_, rfl⟩
  rw [← hW6] at h6 k6
  have kk := (k4.trans k5).trans k6
  have hz6 := kk.bk hz3 hne
  have hbw : Kept (Cx g fb mb) w W6 := ((Kept.of_below HB.out _).trans ((Kept.of_below H2.out.2 _).trans (Kept.of_below b3 _))).trans (kk.more (fun k e => .inr (.inl e)))
  have H6 := Lib.hid (And.intro h6 (And.intro hz6 hbw))
  have HV := Lib.hid (And.intro hW5 hW6)
  have HG := Lib.hid (show w.heap.size + 1 ≠ g ∧ w.heap.size + 1 ≠ fb ∧ w.heap.size + 1 ≠ mb from by
    have hz1 := HZ.out
    have a1 := H1.out.blk
    have a3 := H1.out.map
    refine ⟨fun e => ?_, hne, fun e => ?_⟩
    · unfold Bk at hz1 a1
      rw [← e, hz1] at a1
      injection a1 with a1
      injection a1 with a1 a2
      cases a2
    · have := H1.out.map
      obtain ⟨D, ho, _⟩ := a3
      obtain ⟨es, clock, hbm, _⟩ := ho
      unfold Bk at hz1
      rw [← e, hz1] at hbm
      injection hbm with hbm
      cases hbm)
  rw [hW4] at c6 r6
  have HL := Lib.hid (show ∀ f2 ∈ fs.set i (f.put bs dirty A2 c2), ∀ a, f2.A = some a → f2.b ≠ [] → a.block ≠ w.heap.size + 1 from fun f2 hf2 a e hb => by
    rcases List.mem_or_eq_of_mem_set hf2 with e2 | rfl
    · have := HD.out f2 e2 a e hb; omega
    · have := (ha2 a e).1; have := H2.out.2.size; have := HS1.out; omega)
  clear h3 h4 h5 h6 k4 k5 k6 kk hz3 hz6 hne hbw hl2 hr2 ha2 b3 HC hW4 hW5 hW6
  cases hfd : f.dirty with
  | true =>
    rw [hfd] at c4 c6 r6
    simp only [Bool.true_or, Bool.false_or] at c6 r6
    go_wp2_with (refine wp_stR rfl 32 (.tmp 8) (.tmp 37) rfl (w.heap.size + 1) outC rfl rfl 32 outC (by have := H6.out.2.1; rw [HV.out.2, HV.out.1, HW4.out, hfd] at this; exact this) (by kernel_rfl) rfl (by kernel_rfl) ?_; intro w9 k9 b9 o9; have HK9 := Lib.hid (And.intro b9 o9); clear c3 r3 c4 r4 c6 r6 b9 o9)
    obtain ⟨b9, o9⟩ := HK9.out
    have h6 := H6.out.1
    have hb6 := H6.out.2.2
    rw [HV.out.2, HV.out.1, HW4.out, hfd] at h6 hb6
    refine bodyPost_ret (v := .tuple #[outZ, .int .i64 0]) (put_res rfl k9 rfl rfl) rfl ⟨A2, c2, rfl, h6.keptS o9 (fun e => HG.out.1 e.symm) (fun e => HG.out.2.1 e.symm) (fun e => HG.out.2.2 e.symm) (fun f2 hf2 a e hb => HL.out f2 hf2 a e hb), hb6.newer o9 (by omega)⟩
  | false =>
    rw [hfd] at c4 c6 r6
    simp only [Bool.true_or, Bool.false_or] at c6 r6
    go_wp2_with (refine wp_stR rfl 32 (.tmp 8) (.tmp 37) rfl (w.heap.size + 1) outC rfl rfl 32 outC (by have := H6.out.2.1; rw [HV.out.2, HV.out.1, HW4.out, hfd] at this; exact this) (by kernel_rfl) rfl (by kernel_rfl) ?_; intro w9 k9 b9 o9; have HK9 := Lib.hid (And.intro b9 o9); clear c3 r3 c4 r4 c6 r6 b9 o9)
    obtain ⟨b9, o9⟩ := HK9.out
    have h6 := H6.out.1
    have hb6 := H6.out.2.2
    rw [HV.out.2, HV.out.1, HW4.out, hfd] at h6 hb6
    refine bodyPost_ret (v := .tuple #[outZ, .int .i64 0]) (put_res rfl k9 rfl rfl) rfl ⟨A2, c2, rfl, h6.keptS o9 (fun e => HG.out.1 e.symm) (fun e => HG.out.2.1 e.symm) (fun e => HG.out.2.2 e.symm) (fun f2 hf2 a e hb => HL.out f2 hf2 a e hb), hb6.newer o9 (by omega)⟩
end
end Go.Proofs.Ythmaofbnhfgfaaa
