/- MemPlays: words, the same words in a row, and a block beside them. Conditions: lengths. -/
import Derived.Test.YtobcpcobgdmleaaMmM
import Derived.Test.YtobcpcobgdmleaaStr
namespace Go.Proofs.Ytobcpcobgdmleaa
set_option linter.unusedVariables false
set_option linter.unusedSimpArgs false
open Go.RowKit
set_option maxRecDepth 100000
/-- Words at g hold ws, the row vr holds rs, block h holds cs: all apart. -/
structure PlayG (w0 : World) (B g h : Nat) (cs : Array Value) (v vr : Value) (ws rs : List (BitVec 64)) (W : World) : Prop where
  mem : MemAt W B g v ws
  row : Ow u64v 29 W B vr rs
  ra : ∀ q, vr.ownBlock = some q → q ≠ g ∧ v.ownBlock ≠ some q ∧ q ≠ h
  blk : Bk W h 32 cs
  hb : B ≤ h
  hg : h ≠ g
  hv : v.ownBlock ≠ some h
  old : Below B w0 W
section
variable {w0 W W' : World} {B g h : Nat} {cs : Array Value} {v vr : Value} {ws rs ws' rs' : List (BitVec 64)}
theorem PlayG.below (p : PlayG w0 B g h cs v vr ws rs W) (hb : Below W.heap.size W W') : PlayG w0 B g h cs v vr ws rs W' :=
  ⟨p.mem.below hb, p.row.below hb, p.ra, p.blk.below hb p.blk.lt, p.hb, p.hg, p.hv, p.old.trans (hb.mono p.mem.le)⟩
theorem PlayG.memTo (p : PlayG w0 B g h cs v vr ws rs W) (m : MemAt W' B g v ws') (hg : W.grownBy W' v.ownBlock) : PlayG w0 B g h cs v vr ws' rs W' := by
  refine ⟨m, p.row.kept hg ?_, p.ra, (hg.block h p.blk.lt (fun e => p.hv e.symm)).trans p.blk, p.hb, p.hg, p.hv, p.old.trans (p.mem.own hg)⟩
  cases hr : vr.ownBlock with
  | none => exact .inl rfl
  | some q => exact .inr (fun e => (p.ra q hr).2.1 e.symm)
theorem PlayG.memCall {f : FuncId} {args : Array Value} {r : Value} (p : PlayG w0 B g h cs v vr ws rs W) (k : Calls Try.prog f args W fun e w' => e = .returned r ∧ MemAt w' B g v ws' ∧ W.grownBy w' v.ownBlock) :
    Calls Try.prog f args W fun e w' => e = .returned r ∧ PlayG w0 B g h cs v vr ws' rs w' :=
  k.mono fun _ _ ⟨e, m, hg⟩ => ⟨e, p.memTo m hg⟩
theorem PlayG.rowTo (p : PlayG w0 B g h cs v vr ws rs W) (hb : Below W.heap.size W W') {v' : Value} (ho : Ow u64v 29 W' W.heap.size v' rs') : PlayG w0 B g h cs v v' ws rs' W' := by
  have p' := p.below hb
  refine ⟨p'.mem, ho.mono p.mem.le, fun q hq => ?_, p'.blk, p.hb, p.hg, p.hv, p'.old⟩
  have h1 := (ho.lt q hq).1
  have h2 := p.mem.blk.lt
  have h3 := p.blk.lt
  exact ⟨by omega, fun e => by have := (p.mem.row.lt q e).2; omega, by omega⟩
theorem PlayG.rowSet {q N c j : Nat} (p : PlayG w0 B g h cs v (.slice (some ⟨q, 0, none⟩) N c) ws rs W) (hj : j < rs.length) (x : BitVec 64) : PlayG w0 B g h cs v (.slice (some ⟨q, 0, none⟩) N c) ws (rs.set j x) (W.setCell ⟨q, j, none⟩ (.int .u64 (U64 x))) := by
  obtain ⟨h1, h2, h3⟩ := p.ra q rfl
  have hgr := grown_set W ⟨q, j, none⟩ (.int .u64 (U64 x))
  refine ⟨p.mem.grown hgr (fun e => h1 (by injection e with e; exact e.symm)) (.inr h2), p.row.set hj x, p.ra, p.blk.far (p := ⟨q, j, none⟩) h3.symm _, p.hb, p.hg, p.hv, p.old.trans (grown_below hgr p.row.ge.1 p.mem.le)⟩
theorem PlayG.six {a b c d e f : Value} (p : PlayG w0 B g h #[a, b, c, d, e, f] v vr ws rs W) : W.cell? ⟨h, 0, none⟩ = some a ∧ W.cell? ⟨h, 1, none⟩ = some b ∧ W.cell? ⟨h, 2, none⟩ = some c ∧ W.cell? ⟨h, 3, none⟩ = some d ∧ W.cell? ⟨h, 4, none⟩ = some e ∧ W.cell? ⟨h, 5, none⟩ = some f :=
  ⟨p.blk.cell 0, p.blk.cell 1, p.blk.cell 2, p.blk.cell 3, p.blk.cell 4, p.blk.cell 5⟩
end
/-- Words at pm, and the same words in a row vr. -/
def PlayS (w0 : World) (B : Nat) (pm vr : Value) (ws : List (BitVec 64)) (W : World) : Prop :=
  ∃ g v, pm = .pointer (some ⟨g, 0, none⟩) ∧ MemAt W B g v ws ∧ Ow u64v 29 W B vr ws ∧ (∀ q, vr.ownBlock = some q → q ≠ g ∧ v.ownBlock ≠ some q) ∧ Below B w0 W
theorem MemAt.base {W : World} {B B2 g : Nat} {v : Value} {ws : List (BitVec 64)} (h : MemAt W B g v ws) (hb : B2 ≤ B) : MemAt W B2 g v ws := ⟨h.blk, Nat.le_trans hb h.ge, h.row.mono hb, h.ne⟩
theorem PlayG.out {w0 W : World} {B g h : Nat} {cs : Array Value} {v vr : Value} {ws : List (BitVec 64)} (p : PlayG w0 B g h cs v vr ws ws W) : PlayS w0 B (.pointer (some ⟨g, 0, none⟩)) vr ws W :=
  ⟨g, v, rfl, p.mem, p.row, fun q hq => ⟨(p.ra q hq).1, (p.ra q hq).2.1⟩, p.old⟩
theorem PlayS.enter {w0 W : World} {B g : Nat} {cs : Array Value} {v vr : Value} {ws : List (BitVec 64)} (m : MemAt W B g v ws) (r : Ow u64v 29 W B vr ws) (ra : ∀ q, vr.ownBlock = some q → q ≠ g ∧ v.ownBlock ≠ some q) (o : Below B w0 W) : PlayG w0 B g W.heap.size cs v vr ws ws (W.alloc (.cells cs 32)) := by
  have hb := Gw.alloc W (.cells cs 32)
  refine ⟨m.below hb, r.below hb, fun q hq => ⟨(ra q hq).1, (ra q hq).2, fun e => ?_⟩, Bk.new W _ _, m.le, fun e => ?_, fun e => ?_, o.trans (hb.mono m.le)⟩
  · have := (r.lt q hq).2; omega
  · have := m.blk.lt; omega
  · have := (m.row.lt _ e).2; omega
/-- Twin: the new words go on. -/
theorem PlayG.twin {w0 W W' : World} {B g h g2 : Nat} {cs : Array Value} {v vr v2 : Value} {ws rs : List (BitVec 64)} (p : PlayG w0 B g h cs v vr ws rs W) (hb : Below W.heap.size W W') (m2 : MemAt W' W.heap.size g2 v2 ws) :
    MemAt W' B g v ws ∧ PlayG w0 B g2 h cs v2 vr ws rs W' ∧ g2 ≠ g ∧ v.ownBlock ≠ some g2 ∧ (v2.ownBlock = none ∨ v2.ownBlock ≠ v.ownBlock) ∧ v2.ownBlock ≠ some g ∧ v.ownBlock ≠ some g2 := by
  have p' := p.below hb
  have hge := m2.ge
  have hgl := p.mem.blk.lt
  have hhl := p.blk.lt
  have hq2 : ∀ q, v2.ownBlock = some q → W.heap.size ≤ q := fun q e => (m2.row.lt q e).1
  have hq1 : ∀ q, v.ownBlock = some q → q < W.heap.size := fun q e => (p.mem.row.lt q e).2
  refine ⟨p'.mem, ⟨m2.base p.mem.le, p'.row, fun q hq => ?_, p'.blk, p.hb, by omega, fun e => ?_, p'.old⟩, by omega, fun e => ?_, ?_, fun e => ?_, fun e => ?_⟩
  · have hql := (p.row.lt q hq).2
    exact ⟨by omega, fun e => by have := hq2 q e; omega, (p.ra q hq).2.2⟩
  · have := hq2 h e; omega
  · have := hq1 g2 e; omega
  · cases hv2 : v2.ownBlock with
    | none => exact .inl rfl
    | some q => exact .inr (fun e => by have h1 := hq2 q hv2; have h2 := hq1 q e.symm; omega)
  · have := hq2 g e; omega
  · have := hq1 g2 e; omega
theorem PlayG.other {w0 W W' : World} {B g h : Nat} {cs : Array Value} {v vr : Value} {ws rs : List (BitVec 64)} {row : Option Nat} (p : PlayG w0 B g h cs v vr ws rs W) (hg : W.grownBy W' row) (h1 : some g ≠ row) (h2 : v.ownBlock = none ∨ v.ownBlock ≠ row) (h3 : vr.ownBlock = none ∨ vr.ownBlock ≠ row) (h4 : some h ≠ row) (hB : ∀ k, row = some k → B ≤ k) : PlayG w0 B g h cs v vr ws rs W' :=
  ⟨p.mem.grown hg h1 h2, p.row.kept hg h3, p.ra, (hg.block h p.blk.lt h4).trans p.blk, p.hb, p.hg, p.hv, p.old.trans (below_of_grown hg p.mem.le hB)⟩
theorem PlayG.same {w0 W : World} {B g h N c : Nat} {cs : Array Value} {v : Value} {A : Option Addr} {ws : List (BitVec 64)} (p : PlayG w0 B g h cs v (.slice A N c) ws ws W) (hn : ws.length = N) (hl : N ≤ 100000) :
    Calls Try.prog 19 #[.pointer (some ⟨g, 0, none⟩), .slice A N c] W fun e w' => e = .returned (.bool true) ∧ PlayG w0 B g h cs v (.slice A N c) ws ws w' := by
  subst hn
  refine (same_t W B g v ws A c p.mem p.row.rd hl).mono ?_
  rintro e w' ⟨rfl, hb⟩
  exact ⟨rfl, p.below hb⟩
theorem PlayG.rowNew {w0 W : World} {B g h S : Nat} {cs : Array Value} {v vr v' : Value} {ws rs rs' : List (BitVec 64)} (p : PlayG w0 B g h cs v vr ws rs W) (ho : Ow u64v 29 W S v' rs') (hB : B ≤ S) (h1 : g < S) (h2 : h < S) (h3 : ∀ q, v.ownBlock = some q → q < S) : PlayG w0 B g h cs v v' ws rs' W :=
  ⟨p.mem, ho.mono hB, fun q hq => by
    have hs := (ho.lt q hq).1
    exact ⟨by omega, fun e => by have := h3 q e; omega, by omega⟩, p.blk, p.hb, p.hg, p.hv, p.old⟩
theorem moveM_get {α : Type} (ws : List α) (to fr n i : Nat) (h1 : to + n ≤ ws.length) (h2 : fr + n ≤ ws.length) : (moveM ws to fr n)[i]? = if to ≤ i ∧ i < to + n then ws[fr + (i - to)]? else ws[i]? := by
  have l1 : (ws.take to).length = to := by rw [List.length_take]; omega
  have l2 : ((ws.drop fr).take n).length = n := by rw [List.length_take, List.length_drop]; omega
  by_cases c : i < to
  · rw [if_neg (by omega)]
    unfold moveM
    rw [List.getElem?_append_left (by omega), List.getElem?_take_of_lt c]
  · by_cases c2 : i < to + n
    · rw [if_pos ⟨by omega, c2⟩]
      unfold moveM
      rw [List.getElem?_append_right (by omega), l1, List.getElem?_append_left (by omega), List.getElem?_take_of_lt (by omega), List.getElem?_drop]
    · rw [if_neg (by omega)]
      unfold moveM
      rw [List.getElem?_append_right (by omega), l1, List.getElem?_append_right (by omega), l2, List.getElem?_drop]
      congr 1
      omega
theorem moveM_set {α : Type} (ws : List α) (to fr k : Nat) (h1 : to + k < ws.length) (h2 : fr + k < ws.length) : (moveM ws to fr k).set (to + k) ws[fr + k] = moveM ws to fr (k + 1) := by
  apply List.ext_getElem?
  intro i
  have hl := moveM_len ws to fr k (by omega) (by omega)
  rw [List.getElem?_set, moveM_get ws to fr (k + 1) i (by omega) (by omega)]
  by_cases e : to + k = i
  · subst e
    rw [if_pos rfl, if_pos (by rw [hl]; exact h1), if_pos (by omega), show fr + (to + k - to) = fr + k from by omega, List.getElem?_eq_getElem h2]
  · rw [if_neg e, moveM_get ws to fr k i (by omega) (by omega)]
    by_cases c : to ≤ i ∧ i < to + k
    · rw [if_pos c, if_pos (by omega)]
    · rw [if_neg c, if_neg (by omega)]
theorem conv13 {xs : List (BitVec 8)} {v : Value} {w : World} (h : SlV b8 xs v w) : (convert 30 9 v).run Try.prog w = .ok (.string (strB xs)) w := by
  obtain ⟨A, c, rfl, _, hr⟩ := h
  exact str_conv xs A c _ w hr
theorem of_mkp13 {P : Program} {g : FuncId} {args : Array Value} {xs : List (BitVec 8)} {w : World} (h : Calls P g args w (MkP b8 5 xs w)) : Calls P g args w fun e w2 => ∃ u, e = .returned u ∧ Below w.heap.size w w2 ∧ SlV b8 xs u w2 :=
  h.mono fun e w2 h => by
    obtain ⟨A, c, rfl, hc, hr, hb⟩ := h
    exact ⟨_, rfl, hb, A, c, rfl, hc, hr.rd⟩
theorem bneS (s : ByteArray) : (s.toList != s.toList) = false := by simp
attribute [local go_sem] bneS
set_option maxHeartbeats 400000
theorem pm_reg (Q : Exit → Act → World → Prop) (a0 : Act) (w : World) (H to fr j t f q7 q12 N c7 c12 : Nat) (y : BitVec 64) (hH : H < w.heap.size) (h7 : q7 < w.heap.size) (c1 : w.cell? ⟨H, 1, none⟩ = some (.int .i64 to)) (c2 : w.cell? ⟨H, 2, none⟩ = some (.int .i64 fr)) (c3 : w.cell? ⟨q7, f, none⟩ = some (.int .u64 (U64 y))) (e1 : (to : Int) + (j : Int) = (t : Int)) (e2 : (fr : Int) + (j : Int) = (f : Int)) (p1 : (0 : Int) ≤ (t : Int)) (p2 : (t : Int) < (N : Int)) (p3 : (0 : Int) ≤ (f : Int)) (p4 : (f : Int) < (N : Int)) (p5 : (N : Int) ≤ 100) (hsz : a0.tmps.size = 227) (sl7 : a0.tmps.getD 7 undef = .slice (some ⟨q7, 0, none⟩) N c7) (sl9 : a0.tmps.getD 9 undef = .pointer (some ⟨H, 0, none⟩)) (sl12 : a0.tmps.getD 12 undef = .slice (some ⟨q12, 0, none⟩) N c12) (sl13 : a0.tmps.getD 13 undef = .int .i64 j)
    (fin : ∀ (vals : Nat → Value) (w1 : World), Below w.heap.size w w1 → (IsV (.int .u64 (U64 y))) (vals 11) w1 → (IsV (.pointer (some ⟨q12, t, none⟩))) (vals 12) w1 → wpList Try.prog #[{ dst := none, op := Go.Op.store 29 (Go.Operand.tmp 152) (Go.Operand.tmp 151), type := 0, pos := "", after := #[], guard := none }] Q [{ dst := none, op := Go.Op.store 29 (Go.Operand.tmp 152) (Go.Operand.tmp 151), type := 0, pos := "", after := #[], guard := none }] (putD vals [140, 141, 142, 143, 144, 145, 146, 147, 148, 149, 150, 151, 152] 0 a0) w1) :
    (Code.region 36 (regIn Try.f3 36) true).wp Try.prog Q a0 w := by
  refine region_by_tail (m := 13) (G := fun w w1 => Below w.heap.size w w1) [IsV (.slice (some ⟨q12, 0, none⟩) N c12),
    IsV (.pointer (some ⟨H, 1, none⟩)),
    IsV (.int .i64 to),
    IsV (.int .i64 j),
    IsV (.int .i64 t),
    IsV (.slice (some ⟨q7, 0, none⟩) N c7),
    IsV (.pointer (some ⟨H, 2, none⟩)),
    IsV (.int .i64 fr),
    IsV (.int .i64 j),
    IsV (.int .i64 f),
    IsV (.pointer (some ⟨q7, f, none⟩)),
    IsV (.int .u64 (U64 y)),
    IsV (.pointer (some ⟨q12, t, none⟩))]
    [140, 141, 142, 143, 144, 145, 146, 147, 148, 149, 150, 151, 152] (by kernel_rfl) (Gw.drew _) Gw.trans (by rw [hsz]; kernel_rfl) (by kernel_rfl) ?_ ?_ ?_
  · intro f hf
    simp only [List.mem_cons, List.not_mem_nil, or_false] at hf
    rcases hf with rfl | rfl | rfl | rfl | rfl | rfl | rfl | rfl | rfl | rfl | rfl | rfl | rfl <;> intro v a b h g <;> first | exact IsV.mono h
  · refine ⟨?_, ?_, ?_, ?_, ?_, ?_, ?_, ?_, ?_, ?_, ?_, ?_, ?_, trivial⟩
    · exact owes_mv 12 (by kernel_rfl) (by kernel_rfl) (by kernel_rfl) sl12 (fun _ => rfl)
    · refine owes_v (Go.Op.fieldAddr 32 (Go.Operand.tmp 9) 1) 0 [] (by kernel_rfl) (by kernel_rfl) (by kernel_rfl) rfl fun vals w1 ρ hG hF hρ hcst hfun => ?_
      have e9 : ρ (.tmp 9) = .pointer (some ⟨H, 0, none⟩) := ((hρ 9).trans (slotO [] (by kernel_rfl))).trans sl9
      clear hρ hF hcst hfun sl7 sl9 sl12 sl13 fin
      exact opv_val (by go_simp <;> rfl) ⟨gw_self _, rfl⟩
    · refine owes_v (Go.Op.load 3 (Go.Operand.tmp 141)) 3 [1] (by kernel_rfl) (by kernel_rfl) (by kernel_rfl) rfl fun vals w1 ρ hG hF hρ hcst hfun => ?_
      have e141 : ρ (.tmp 141) = .pointer (some ⟨H, 1, none⟩) := ((hρ 141).trans (slotJ [1] (by rw [hsz]; decide) (by kernel_rfl))).trans (hF 1 (by decide))
      have k := (hG.cell (p := ⟨H, 1, none⟩) hH).trans c1
      clear hρ hF hcst hfun sl7 sl9 sl12 sl13 fin
      exact opv_val (by go_simp <;> rfl) ⟨gw_self _, rfl⟩
    · exact owes_mv 13 (by kernel_rfl) (by kernel_rfl) (by kernel_rfl) sl13 (fun _ => rfl)
    · refine owes_v (Go.Op.binOp Go.BinOp.add 3 (Go.Operand.tmp 142) (Go.Operand.tmp 143) 3) 3 [2, 3] (by kernel_rfl) (by kernel_rfl) (by kernel_rfl) rfl fun vals w1 ρ hG hF hρ hcst hfun => ?_
      have e142 : ρ (.tmp 142) = .int .i64 to := ((hρ 142).trans (slotJ [2, 3] (by rw [hsz]; decide) (by kernel_rfl))).trans (hF 2 (by decide))
      have e143 : ρ (.tmp 143) = .int .i64 j := ((hρ 143).trans (slotJ [2, 3] (by rw [hsz]; decide) (by kernel_rfl))).trans (hF 3 (by decide))
      have kw0 : IntKind.i64.wrap ((t : Int)) = (t : Int) := wrapIn (by omega) (by omega)
      clear hρ hF hcst hfun sl7 sl9 sl12 sl13 fin
      exact opv_val (by go_simp <;> rfl) ⟨gw_self _, rfl⟩
    · exact owes_mv 7 (by kernel_rfl) (by kernel_rfl) (by kernel_rfl) sl7 (fun _ => rfl)
    · refine owes_v (Go.Op.fieldAddr 32 (Go.Operand.tmp 9) 2) 0 [] (by kernel_rfl) (by kernel_rfl) (by kernel_rfl) rfl fun vals w1 ρ hG hF hρ hcst hfun => ?_
      have e9 : ρ (.tmp 9) = .pointer (some ⟨H, 0, none⟩) := ((hρ 9).trans (slotO [] (by kernel_rfl))).trans sl9
      clear hρ hF hcst hfun sl7 sl9 sl12 sl13 fin
      exact opv_val (by go_simp <;> rfl) ⟨gw_self _, rfl⟩
    · refine owes_v (Go.Op.load 3 (Go.Operand.tmp 146)) 3 [6] (by kernel_rfl) (by kernel_rfl) (by kernel_rfl) rfl fun vals w1 ρ hG hF hρ hcst hfun => ?_
      have e146 : ρ (.tmp 146) = .pointer (some ⟨H, 2, none⟩) := ((hρ 146).trans (slotJ [6] (by rw [hsz]; decide) (by kernel_rfl))).trans (hF 6 (by decide))
      have k := (hG.cell (p := ⟨H, 2, none⟩) hH).trans c2
      clear hρ hF hcst hfun sl7 sl9 sl12 sl13 fin
      exact opv_val (by go_simp <;> rfl) ⟨gw_self _, rfl⟩
    · exact owes_mv 13 (by kernel_rfl) (by kernel_rfl) (by kernel_rfl) sl13 (fun _ => rfl)
    · refine owes_v (Go.Op.binOp Go.BinOp.add 3 (Go.Operand.tmp 147) (Go.Operand.tmp 148) 3) 3 [7, 8] (by kernel_rfl) (by kernel_rfl) (by kernel_rfl) rfl fun vals w1 ρ hG hF hρ hcst hfun => ?_
      have e147 : ρ (.tmp 147) = .int .i64 fr := ((hρ 147).trans (slotJ [7, 8] (by rw [hsz]; decide) (by kernel_rfl))).trans (hF 7 (by decide))
      have e148 : ρ (.tmp 148) = .int .i64 j := ((hρ 148).trans (slotJ [7, 8] (by rw [hsz]; decide) (by kernel_rfl))).trans (hF 8 (by decide))
      have kw0 : IntKind.i64.wrap ((f : Int)) = (f : Int) := wrapIn (by omega) (by omega)
      clear hρ hF hcst hfun sl7 sl9 sl12 sl13 fin
      exact opv_val (by go_simp <;> rfl) ⟨gw_self _, rfl⟩
    · refine owes_v (Go.Op.indexAddr 22 (Go.Operand.tmp 145) (Go.Operand.tmp 149)) 0 [5, 9] (by kernel_rfl) (by kernel_rfl) (by kernel_rfl) rfl fun vals w1 ρ hG hF hρ hcst hfun => ?_
      have e145 : ρ (.tmp 145) = .slice (some ⟨q7, 0, none⟩) N c7 := ((hρ 145).trans (slotJ [5, 9] (by rw [hsz]; decide) (by kernel_rfl))).trans (hF 5 (by decide))
      have e149 : ρ (.tmp 149) = .int .i64 f := ((hρ 149).trans (slotJ [5, 9] (by rw [hsz]; decide) (by kernel_rfl))).trans (hF 9 (by decide))
      clear hρ hF hcst hfun sl7 sl9 sl12 sl13 fin
      exact opv_val (by go_simp <;> rfl) ⟨gw_self _, rfl⟩
    · refine owes_v (Go.Op.load 29 (Go.Operand.tmp 150)) 29 [10] (by kernel_rfl) (by kernel_rfl) (by kernel_rfl) rfl fun vals w1 ρ hG hF hρ hcst hfun => ?_
      have e150 : ρ (.tmp 150) = .pointer (some ⟨q7, f, none⟩) := ((hρ 150).trans (slotJ [10] (by rw [hsz]; decide) (by kernel_rfl))).trans (hF 10 (by decide))
      have k := (hG.cell (p := ⟨q7, f, none⟩) h7).trans c3
      clear hρ hF hcst hfun sl7 sl9 sl12 sl13 fin
      exact opv_val (by go_simp <;> rfl) ⟨gw_self _, rfl⟩
    · refine owes_v (Go.Op.indexAddr 22 (Go.Operand.tmp 140) (Go.Operand.tmp 144)) 0 [0, 4] (by kernel_rfl) (by kernel_rfl) (by kernel_rfl) rfl fun vals w1 ρ hG hF hρ hcst hfun => ?_
      have e140 : ρ (.tmp 140) = .slice (some ⟨q12, 0, none⟩) N c12 := ((hρ 140).trans (slotJ [0, 4] (by rw [hsz]; decide) (by kernel_rfl))).trans (hF 0 (by decide))
      have e144 : ρ (.tmp 144) = .int .i64 t := ((hρ 144).trans (slotJ [0, 4] (by rw [hsz]; decide) (by kernel_rfl))).trans (hF 4 (by decide))
      clear hρ hF hcst hfun sl7 sl9 sl12 sl13 fin
      exact opv_val (by go_simp <;> rfl) ⟨gw_self _, rfl⟩
  · intro vals w1 hG hF
    exact last_list (by kernel_rfl) (by kernel_rfl) (by kernel_rfl) (fin vals w1 hG (hF 11 (by decide +kernel)) (hF 12 (by decide +kernel)))
theorem pb_reg (Q : Exit → Act → World → Prop) (a0 : Act) (w : World) (H a n N c7 c14 : Nat) (A7 A14 : Option Addr) (ws : List (BitVec 64)) (xs : List (BitVec 8)) (hH : H < w.heap.size) (c1 : w.cell? ⟨H, 1, none⟩ = some (.int .i64 a)) (c2 : w.cell? ⟨H, 3, none⟩ = some (.int .i64 n)) (hx : xs = bytesM ws a n) (hn : xs.length = n) (hN : N = ws.length) (h7 : Rd u64v w w.heap.size A7 ws) (h14 : Rd b8 w w.heap.size A14 xs) (hf : a + n ≤ 8 * ws.length) (hl : ws.length ≤ 100000) (hsz : a0.tmps.size = 227) (sl7 : a0.tmps.getD 7 undef = .slice A7 N c7) (sl9 : a0.tmps.getD 9 undef = .pointer (some ⟨H, 0, none⟩)) (sl11 : a0.tmps.getD 11 undef = .bool true) (sl14 : a0.tmps.getD 14 undef = .slice A14 n c14)
    (fin : ∀ (vals : Nat → Value) (w1 : World), Below w.heap.size w w1 → (IsV (.bool false)) (vals 12) w1 → Q .normal (putD vals [174, 175, 176, 177, 178, 179, 180, 181, 182, 183, 184, 185, 186] 0 a0) w1) :
    (Code.region 42 (regIn Try.f3 42) true).wp Try.prog Q a0 w := by
  refine region_by (G := fun w w1 => Below w.heap.size w w1) [IsV (.bool true),
    IsV (.bool true),
    IsV (.slice A14 n c14),
    IsV (.string (strB xs)),
    IsV (.slice A7 N c7),
    IsV (.pointer (some ⟨H, 1, none⟩)),
    IsV (.int .i64 a),
    IsV (.pointer (some ⟨H, 3, none⟩)),
    IsV (.int .i64 n),
    SlV b8 xs,
    IsV (.string (strB xs)),
    IsV (.bool false),
    IsV (.bool false)]
    [174, 175, 176, 177, 178, 179, 180, 181, 182, 183, 184, 185, 186] (by kernel_rfl) (Gw.drew _) Gw.trans (by rw [hsz]; kernel_rfl) (by kernel_rfl) ?_ ?_ ?_
  · intro f hf
    simp only [List.mem_cons, List.not_mem_nil, or_false] at hf
    rcases hf with rfl | rfl | rfl | rfl | rfl | rfl | rfl | rfl | rfl | rfl | rfl | rfl | rfl <;> intro v a b h g <;> first | exact IsV.mono h | exact SlV.mono h g
  · refine ⟨?_, ?_, ?_, ?_, ?_, ?_, ?_, ?_, ?_, ?_, ?_, ?_, ?_, trivial⟩
    · exact owes_mv 11 (by kernel_rfl) (by kernel_rfl) (by kernel_rfl) sl11 (fun _ => rfl)
    · exact owes_mvj 0 174 (by kernel_rfl) (by kernel_rfl) (by kernel_rfl) (by kernel_rfl) (by rw [hsz]; decide) (fun v w h => h)
    · refine owes_vt 1 true (Go.Op.move (Go.Operand.tmp 14)) 30 [] (by kernel_rfl) (by kernel_rfl) (by kernel_rfl) (fun _ _ h => h) (by rw [hsz]; kernel_rfl) (by kernel_rfl) rfl fun vals w1 ρ hG hF hρ hcst hfun => ?_
      have e14 : ρ (.tmp 14) = .slice A14 n c14 := ((hρ 14).trans (slotO [] (by kernel_rfl))).trans sl14
      clear hρ hF hcst hfun sl7 sl9 sl11 sl14 fin
      exact opv_val (by go_simp <;> rfl) ⟨gw_self _, rfl⟩
    · refine owes_vt 1 true (Go.Op.convert 30 9 (Go.Operand.tmp 176)) 9 [2] (by kernel_rfl) (by kernel_rfl) (by kernel_rfl) (fun _ _ h => h) (by rw [hsz]; kernel_rfl) (by kernel_rfl) rfl fun vals w1 ρ hG hF hρ hcst hfun => ?_
      have e176 : ρ (.tmp 176) = .slice A14 n c14 := ((hρ 176).trans (slotJ [2] (by rw [hsz]; decide) (by kernel_rfl))).trans (hF 2 (by decide))
      have k := str_conv xs A14 c14 _ w1 (h14.below hG)
      rw [hn] at k
      clear hρ hF hcst hfun sl7 sl9 sl11 sl14 fin
      exact opv_val (by go_simp <;> rfl) ⟨gw_self _, rfl⟩
    · refine owes_vt 1 true (Go.Op.move (Go.Operand.tmp 7)) 22 [] (by kernel_rfl) (by kernel_rfl) (by kernel_rfl) (fun _ _ h => h) (by rw [hsz]; kernel_rfl) (by kernel_rfl) rfl fun vals w1 ρ hG hF hρ hcst hfun => ?_
      have e7 : ρ (.tmp 7) = .slice A7 N c7 := ((hρ 7).trans (slotO [] (by kernel_rfl))).trans sl7
      clear hρ hF hcst hfun sl7 sl9 sl11 sl14 fin
      exact opv_val (by go_simp <;> rfl) ⟨gw_self _, rfl⟩
    · refine owes_vt 1 true (Go.Op.fieldAddr 32 (Go.Operand.tmp 9) 1) 0 [] (by kernel_rfl) (by kernel_rfl) (by kernel_rfl) (fun _ _ h => h) (by rw [hsz]; kernel_rfl) (by kernel_rfl) rfl fun vals w1 ρ hG hF hρ hcst hfun => ?_
      have e9 : ρ (.tmp 9) = .pointer (some ⟨H, 0, none⟩) := ((hρ 9).trans (slotO [] (by kernel_rfl))).trans sl9
      clear hρ hF hcst hfun sl7 sl9 sl11 sl14 fin
      exact opv_val (by go_simp <;> rfl) ⟨gw_self _, rfl⟩
    · refine owes_vt 1 true (Go.Op.load 3 (Go.Operand.tmp 179)) 3 [5] (by kernel_rfl) (by kernel_rfl) (by kernel_rfl) (fun _ _ h => h) (by rw [hsz]; kernel_rfl) (by kernel_rfl) rfl fun vals w1 ρ hG hF hρ hcst hfun => ?_
      have e179 : ρ (.tmp 179) = .pointer (some ⟨H, 1, none⟩) := ((hρ 179).trans (slotJ [5] (by rw [hsz]; decide) (by kernel_rfl))).trans (hF 5 (by decide))
      have k := (hG.cell (p := ⟨H, 1, none⟩) hH).trans c1
      clear hρ hF hcst hfun sl7 sl9 sl11 sl14 fin
      exact opv_val (by go_simp <;> rfl) ⟨gw_self _, rfl⟩
    · refine owes_vt 1 true (Go.Op.fieldAddr 32 (Go.Operand.tmp 9) 3) 0 [] (by kernel_rfl) (by kernel_rfl) (by kernel_rfl) (fun _ _ h => h) (by rw [hsz]; kernel_rfl) (by kernel_rfl) rfl fun vals w1 ρ hG hF hρ hcst hfun => ?_
      have e9 : ρ (.tmp 9) = .pointer (some ⟨H, 0, none⟩) := ((hρ 9).trans (slotO [] (by kernel_rfl))).trans sl9
      clear hρ hF hcst hfun sl7 sl9 sl11 sl14 fin
      exact opv_val (by go_simp <;> rfl) ⟨gw_self _, rfl⟩
    · refine owes_vt 1 true (Go.Op.load 3 (Go.Operand.tmp 181)) 3 [7] (by kernel_rfl) (by kernel_rfl) (by kernel_rfl) (fun _ _ h => h) (by rw [hsz]; kernel_rfl) (by kernel_rfl) rfl fun vals w1 ρ hG hF hρ hcst hfun => ?_
      have e181 : ρ (.tmp 181) = .pointer (some ⟨H, 3, none⟩) := ((hρ 181).trans (slotJ [7] (by rw [hsz]; decide) (by kernel_rfl))).trans (hF 7 (by decide))
      have k := (hG.cell (p := ⟨H, 3, none⟩) hH).trans c2
      clear hρ hF hcst hfun sl7 sl9 sl11 sl14 fin
      exact opv_val (by go_simp <;> rfl) ⟨gw_self _, rfl⟩
    · refine owes_vt 1 true (Go.Op.call { callee := Go.Callee.value (Go.Operand.func 16), args := #[Go.Operand.tmp 178, Go.Operand.tmp 180, Go.Operand.tmp 182], argTypes := #[22, 3, 3] }) 30 [4, 6, 8] (by kernel_rfl) (by kernel_rfl) (by kernel_rfl) (fun _ _ h => h) (by rw [hsz]; kernel_rfl) (by kernel_rfl) rfl fun vals w1 ρ hG hF hρ hcst hfun => ?_
      have e178 : ρ (.tmp 178) = .slice A7 N c7 := ((hρ 178).trans (slotJ [4, 6, 8] (by rw [hsz]; decide) (by kernel_rfl))).trans (hF 4 (by decide))
      have e180 : ρ (.tmp 180) = .int .i64 a := ((hρ 180).trans (slotJ [4, 6, 8] (by rw [hsz]; decide) (by kernel_rfl))).trans (hF 6 (by decide))
      have e182 : ρ (.tmp 182) = .int .i64 n := ((hρ 182).trans (slotJ [4, 6, 8] (by rw [hsz]; decide) (by kernel_rfl))).trans (hF 8 (by decide))
      have kl := rbytes_c w1 A7 c7 ws a n ((h7.below hG).more hG.size) hf hl
      rw [← hx, ← hN] at kl
      clear hρ hF hcst sl7 sl9 sl11 sl14 fin
      exact opv_enter (by go_simp <;> rfl) (of_mkp13 kl)
    · refine owes_vt 1 true (Go.Op.convert 30 9 (Go.Operand.tmp 183)) 9 [9] (by kernel_rfl) (by kernel_rfl) (by kernel_rfl) (fun _ _ h => h) (by rw [hsz]; kernel_rfl) (by kernel_rfl) rfl fun vals w1 ρ hG hF hρ hcst hfun => ?_
      have f183 : (SlV b8 xs) (vals 9) w1 := hF 9 (by decide)
      have e183 : ρ (.tmp 183) = vals 9 := (hρ 183).trans (slotJ [9] (by rw [hsz]; decide) (by kernel_rfl))
      have k := conv13 f183
      clear hρ hF hcst hfun sl7 sl9 sl11 sl14 fin
      exact opv_val (by go_simp <;> rfl) ⟨gw_self _, rfl⟩
    · refine owes_vt 1 true (Go.Op.binOp Go.BinOp.neq 9 (Go.Operand.tmp 177) (Go.Operand.tmp 184) 9) 4 [3, 10] (by kernel_rfl) (by kernel_rfl) (by kernel_rfl) (fun _ _ h => h) (by rw [hsz]; kernel_rfl) (by kernel_rfl) rfl fun vals w1 ρ hG hF hρ hcst hfun => ?_
      have e177 : ρ (.tmp 177) = .string (strB xs) := ((hρ 177).trans (slotJ [3, 10] (by rw [hsz]; decide) (by kernel_rfl))).trans (hF 3 (by decide))
      have e184 : ρ (.tmp 184) = .string (strB xs) := ((hρ 184).trans (slotJ [3, 10] (by rw [hsz]; decide) (by kernel_rfl))).trans (hF 10 (by decide))
      clear hρ hF hcst hfun sl7 sl9 sl11 sl14 fin
      exact opv_val (by go_simp <;> rfl) ⟨gw_self _, rfl⟩
    · refine owes_v (Go.Op.pick (Go.Operand.tmp 175) (Go.Operand.tmp 185) (Go.Operand.const (Go.Value.bool false))) 4 [1, 11] (by kernel_rfl) (by kernel_rfl) (by kernel_rfl) rfl fun vals w1 ρ hG hF hρ hcst hfun => ?_
      have e175 : ρ (.tmp 175) = .bool true := ((hρ 175).trans (slotJ [1, 11] (by rw [hsz]; decide) (by kernel_rfl))).trans (hF 1 (by decide))
      have e185 : ρ (.tmp 185) = .bool false := ((hρ 185).trans (slotJ [1, 11] (by rw [hsz]; decide) (by kernel_rfl))).trans (hF 11 (by decide))
      clear hρ hF hfun sl7 sl9 sl11 sl14 fin
      exact opv_val (by go_simp <;> rfl) ⟨gw_self _, rfl⟩
  · intro vals w1 hG hF
    exact fin vals w1 hG (hF 12 (by decide +kernel))
theorem pn_reg (Q : Exit → Act → World → Prop) (a0 : Act) (w : World)  (hsz : a0.tmps.size = 227) (sl11 : a0.tmps.getD 11 undef = .bool false)
    (fin : ∀ (vals : Nat → Value) (w1 : World), Below w.heap.size w w1 → (IsV (Go.Value.bool false)) (vals 12) w1 → Q .normal (putD vals [174, 175, 176, 177, 178, 179, 180, 181, 182, 183, 184, 185, 186] 0 a0) w1) :
    (Code.region 42 (regIn Try.f3 42) true).wp Try.prog Q a0 w := by
  refine region_by (G := fun w w1 => Below w.heap.size w w1) [IsV (.bool false),
    IsV (.bool false),
    IsV undef,
    IsV undef,
    IsV undef,
    IsV undef,
    IsV undef,
    IsV undef,
    IsV undef,
    IsV undef,
    IsV undef,
    IsV undef,
    IsV (Go.Value.bool false)]
    [174, 175, 176, 177, 178, 179, 180, 181, 182, 183, 184, 185, 186] (by kernel_rfl) (Gw.drew _) Gw.trans (by rw [hsz]; kernel_rfl) (by kernel_rfl) ?_ ?_ ?_
  · intro f hf
    simp only [List.mem_cons, List.not_mem_nil, or_false] at hf
    rcases hf with rfl | rfl | rfl | rfl | rfl | rfl | rfl | rfl | rfl | rfl | rfl | rfl | rfl <;> intro v a b h g <;> first | exact IsV.mono h
  · refine ⟨?_, ?_, ?_, ?_, ?_, ?_, ?_, ?_, ?_, ?_, ?_, ?_, ?_, trivial⟩
    · exact owes_mv 11 (by kernel_rfl) (by kernel_rfl) (by kernel_rfl) sl11 (fun _ => rfl)
    · exact owes_mvj 0 174 (by kernel_rfl) (by kernel_rfl) (by kernel_rfl) (by kernel_rfl) (by rw [hsz]; decide) (fun v w h => h)
    · exact owes_no 1 false true (by decide) (by kernel_rfl) (by kernel_rfl) (fun _ _ h => h) (by rw [hsz]; kernel_rfl) (fun _ => rfl)
    · exact owes_no 1 false true (by decide) (by kernel_rfl) (by kernel_rfl) (fun _ _ h => h) (by rw [hsz]; kernel_rfl) (fun _ => rfl)
    · exact owes_no 1 false true (by decide) (by kernel_rfl) (by kernel_rfl) (fun _ _ h => h) (by rw [hsz]; kernel_rfl) (fun _ => rfl)
    · exact owes_no 1 false true (by decide) (by kernel_rfl) (by kernel_rfl) (fun _ _ h => h) (by rw [hsz]; kernel_rfl) (fun _ => rfl)
    · exact owes_no 1 false true (by decide) (by kernel_rfl) (by kernel_rfl) (fun _ _ h => h) (by rw [hsz]; kernel_rfl) (fun _ => rfl)
    · exact owes_no 1 false true (by decide) (by kernel_rfl) (by kernel_rfl) (fun _ _ h => h) (by rw [hsz]; kernel_rfl) (fun _ => rfl)
    · exact owes_no 1 false true (by decide) (by kernel_rfl) (by kernel_rfl) (fun _ _ h => h) (by rw [hsz]; kernel_rfl) (fun _ => rfl)
    · exact owes_no 1 false true (by decide) (by kernel_rfl) (by kernel_rfl) (fun _ _ h => h) (by rw [hsz]; kernel_rfl) (fun _ => rfl)
    · exact owes_no 1 false true (by decide) (by kernel_rfl) (by kernel_rfl) (fun _ _ h => h) (by rw [hsz]; kernel_rfl) (fun _ => rfl)
    · exact owes_no 1 false true (by decide) (by kernel_rfl) (by kernel_rfl) (fun _ _ h => h) (by rw [hsz]; kernel_rfl) (fun _ => rfl)
    · refine owes_v (Go.Op.pick (Go.Operand.tmp 175) (Go.Operand.tmp 185) (Go.Operand.const (Go.Value.bool false))) 4 [1, 11] (by kernel_rfl) (by kernel_rfl) (by kernel_rfl) rfl fun vals w1 ρ hG hF hρ hcst hfun => ?_
      have e175 : ρ (.tmp 175) = .bool false := ((hρ 175).trans (slotJ [1, 11] (by rw [hsz]; decide) (by kernel_rfl))).trans (hF 1 (by decide))
      have f185 : (IsV undef) (vals 11) w1 := hF 11 (by decide)
      have e185 : ρ (.tmp 185) = vals 11 := (hρ 185).trans (slotJ [1, 11] (by rw [hsz]; decide) (by kernel_rfl))
      clear hρ hF hfun sl11 fin
      exact opv_val (by go_simp <;> rfl) ⟨gw_self _, rfl⟩
  · intro vals w1 hG hF
    exact fin vals w1 hG (hF 12 (by decide +kernel))
end Go.Proofs.Ytobcpcobgdmleaa
