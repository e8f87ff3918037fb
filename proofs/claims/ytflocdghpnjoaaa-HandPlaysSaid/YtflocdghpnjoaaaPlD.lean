/- HandPlays: a table, the same handles in a row, and a block beside them. Conditions: lengths. -/
import Derived.Test.YtflocdghpnjoaaaPlC
import Derived.Test.YtflocdghpnjoaaaRegW
namespace Go.Proofs.Ytflocdghpnjoaaa
set_option linter.unusedVariables false
set_option linter.unusedSimpArgs false
open Go.RowKit Go.Maps
set_option maxHeartbeats 400000
set_option maxRecDepth 100000
theorem PR.mono {w : World} {b b' : Nat} {v : Value} {l : List (Int × Int)} (h : PR w b v l) (hb : b' ≤ b) : PR w b' v l := by
  obtain ⟨h1, h2⟩ := h
  refine ⟨h1, ?_⟩
  rcases h2 with h2 | ⟨g, cap, cur, e, hg, r⟩
  · exact .inl h2
  · exact .inr ⟨g, cap, cur, e, Nat.le_trans hb hg, r⟩
def Fx (rv : Value) (X : Nat → Prop) (k : Nat) : Prop := rv.ownBlock = some k ∨ X k
/-- A table of lt in block g, the row rv of lr, blocks X beside them. -/
structure St (B : Nat) (X : Nat → Prop) (w : World) (g : Nat) (rv : Value) (lt lr : List (Int × Int)) (last : Nat) : Prop where
  tab : TabX B (Fx rv X) w g lt last
  row : PR w B rv lr
  rx : ∀ k, rv.ownBlock = some k → ¬ X k
  hX : ∀ k, X k → B ≤ k ∧ k < w.heap.size
  hB : B ≤ w.heap.size
section
variable {B : Nat} {X : Nat → Prop} {w w' : World} {g last last' : Nat} {rv rv' : Value} {lt lr lt' lr' : List (Int × Int)}
theorem St.fx (h : St B X w g rv lt lr last) : ∀ k, Fx rv X k → B ≤ k ∧ k < w.heap.size := by
  rintro k (e | e)
  · exact h.row.lt k e
  · exact h.hX k e
theorem St.fxl (h : St B X w g rv lt lr last) : ∀ k, Fx rv X k → k < w.heap.size := fun k e => (h.fx k e).2
theorem St.below (h : St B X w g rv lt lr last) (hb : Below w.heap.size w w') : St B X w' g rv lt lr last :=
  ⟨h.tab.below hb, h.row.below hb, h.rx, fun k e => ⟨(h.hX k e).1, Nat.lt_of_lt_of_le (h.hX k e).2 hb.size⟩, Nat.le_trans h.hB hb.size⟩
/-- A call on the table. -/
theorem St.tb {v : Value} {e : Ending} (h : St B X w g rv lt lr last) (k : TbP B (Fx rv X) w g lt' last' v e w') : St B X w' g rv lt' lr last' :=
  ⟨k.2.1, h.row.kept k.2.2 (fun i e f => f.2 (.inl e)), h.rx, fun i e => ⟨(h.hX i e).1, Nat.lt_of_lt_of_le (h.hX i e).2 k.2.2.size⟩, Nat.le_trans h.hB k.2.2.size⟩
/-- A new row goes on. -/
theorem St.rowTo (h : St B X w g rv lt lr last) (hb : Below w.heap.size w w') (hr : PR w' w.heap.size rv' lr') : St B X w' g rv' lt lr' last := by
  have hn : ∀ k, rv'.ownBlock = some k → w.heap.size ≤ k := fun k e => (hr.lt k e).1
  refine ⟨(h.tab.besides (X' := Fx rv' X) (fun k e => ?_)).below hb, hr.mono h.hB, fun k e f => ?_, fun k e => ⟨(h.hX k e).1, Nat.lt_of_lt_of_le (h.hX k e).2 hb.size⟩, Nat.le_trans h.hB hb.size⟩
  · rcases e with e | e
    · exact .inr (hn k e)
    · exact .inl (.inr e)
  · have h1 := hn k e
    have h2 := (h.hX k f).2
    omega
/-- Blocks that were set aside are so no more. -/
theorem St.drop (h : St B X w g rv lt lr last) : St B (fun _ => False) w g rv lt lr last :=
  ⟨h.tab.besides (fun k e => by
    rcases e with e | e
    · exact .inl (.inl e)
    · exact e.elim), h.row, fun _ _ f => f, fun _ f => f.elim, h.hB⟩
/-- A block that is new is set aside. -/
theorem St.aside (h : St B (fun _ => False) w g rv lt lr last) (hb : Below w.heap.size w w') (hs : w.heap.size < w'.heap.size) : St B (fun k => k = w.heap.size) w' g rv lt lr last := by
  refine ⟨(h.tab.besides (X' := Fx rv (fun k => k = w.heap.size)) (fun k e => ?_)).below hb, h.row.below hb, fun k e f => ?_, fun k e => ⟨by have := h.hB; omega, by omega⟩, Nat.le_trans h.hB hb.size⟩
  · rcases e with e | e
    · exact .inl (.inl e)
    · exact .inr (by omega)
  · have := (h.row.lt k e).2; omega
/-- Another table goes on. -/
theorem St.twin {g2 : Nat} (h : St B X w g rv lt lr last) (hb : Below w.heap.size w w') (ht : TabX w.heap.size (Fx rv X) w' g2 lt' last') : St B X w' g2 rv lt' lr last' := by
  have h1 := h.below hb
  obtain ⟨mb, h2, h3⟩ := ht
  exact ⟨⟨mb, h2, fun k e => ⟨Nat.le_trans h.hB (h3 k e).1, (h3 k e).2⟩⟩, h1.row, h1.rx, h1.hX, h1.hB⟩
/-- Twin: the new table goes on, the elder may turn. -/
theorem St.turn {g2 : Nat} (h : St B X w g rv lt lr last) (hb : Below w.heap.size w w') (ht : TabX w.heap.size (Fx rv X) w' g2 lt last) :
    TabX B (fun k => Fx rv X k ∨ w.heap.size ≤ k) w' g lt last ∧ ∀ w'' v e lt2, TbP B (fun k => Fx rv X k ∨ w.heap.size ≤ k) w' g lt2 last v e w'' → St B X w'' g2 rv lt lr last := by
  refine ⟨(h.tab.besides (X' := fun k => Fx rv X k ∨ w.heap.size ≤ k) (fun k e => e)).below hb, fun w'' v e lt2 k => ?_⟩
  have h1 := h.below hb
  have hk := k.2.2
  have ht2 := ht.kept hk (fun i hi => by
    rcases Nat.lt_or_ge i w.heap.size with f | f
    · exact .inl f
    · exact absurd (.inr f) hi.2)
  obtain ⟨mb, h2, h3⟩ := ht2
  exact ⟨⟨mb, h2, fun i e => ⟨Nat.le_trans h.hB (h3 i e).1, (h3 i e).2⟩⟩, h1.row.kept hk (fun i e f => f.2 (.inl (.inl e))), h1.rx, fun i e => ⟨(h1.hX i e).1, Nat.lt_of_lt_of_le (h1.hX i e).2 hk.size⟩, Nat.le_trans h1.hB hk.size⟩
theorem PR.ofB {w : World} {q : Nat} (p : Int × Int) (h : Bk w q 31 #[.int .i64 p.1, .int .i64 p.2]) : RdP w (some ⟨q, 0, none⟩) [p] := by
  intro j u hu
  refine ⟨_, rfl, ?_⟩
  rw [add_off, Nat.zero_add, h.cell]
  simpa [flatP, pC] using hu
theorem off_take {l : List (Int × Int)} (h : Rise l) (j : Nat) (hj : j < l.length) : offI l l[j].1 = l.take j ++ l.drop (j + 1) := by
  obtain ⟨c1, c2⟩ := h.cut j hj
  have e : l = l.take j ++ (l[j].1, l[j].2) :: l.drop (j + 1) := by rw [List.getElem_cons_drop, List.take_append_drop]
  exact (congrArg (fun L => offI L l[j].1) e).trans (off_mid _ _ _ _ c1 c2)
theorem not_next {b : Bool} {p : Prop} (h : b = true) (e : b = false) : p := by rw [e] at h; cases h
theorem TbP.bk {v : Value} {e : Ending} {S : Nat → Prop} {lt' : List (Int × Int)} (k : TbP B S w g lt' last v e w') {q : Nat} {E : TypeId} {cs : Array Value} (hb : Bk w q E cs) (hq : q < B ∨ S q) : Bk w' q E cs :=
  k.2.2.bk hb (fun f => by
    rcases hq with e | e
    · omega
    · exact f.2 e)
theorem TabX.facts {S : Nat → Prop} {l : List (Int × Int)} (h : TabX B S w g l last) : Rise l ∧ (∀ p ∈ l, 1 ≤ p.1 ∧ p.1 ≤ last ∧ 1 ≤ p.2 ∧ p.2 ≤ 9223372036854775807) ∧ last ≤ 1000000 ∧ l.length ≤ 256 := by
  obtain ⟨mb, h1, h2⟩ := h
  exact ⟨h1.rise, h1.keys, h1.lim, h1.len⟩
end
/-- What was found among those from s on. -/
def FoundI (l : List (Int × Int)) (n : Int) (s : Nat) (f : Int) : Prop :=
  (f = 0 ∧ ∀ j (hj : j < l.length), s ≤ j → l[j].2 ≠ n) ∨ (∃ j0, ∃ h : j0 < l.length, s ≤ j0 ∧ l[j0].2 = n ∧ f = l[j0].1 ∧ ∀ j (hj : j < j0), s ≤ j → l[j].2 ≠ n)
theorem FoundI.start (l : List (Int × Int)) (n : Int) : FoundI l n l.length 0 := .inl ⟨rfl, fun j hj h => by omega⟩
theorem FoundI.hit {l : List (Int × Int)} {n : Int} {s : Nat} {f : Int} (hs : s < l.length) (hn : l[s].2 = n) : FoundI l n s l[s].1 := .inr ⟨s, hs, Nat.le_refl _, hn, rfl, fun j hj h => by omega⟩
theorem FoundI.miss {l : List (Int × Int)} {n : Int} {s : Nat} {f : Int} (h : FoundI l n (s + 1) f) (hs : s < l.length) (hn : l[s].2 ≠ n) : FoundI l n s f := by
  have hc : ∀ j (hj : j < l.length), s ≤ j → (j = s ∨ s + 1 ≤ j) := fun j hj h => by omega
  rcases h with ⟨rfl, h⟩ | ⟨j0, hj0, h1, h2, h3, h4⟩
  · refine .inl ⟨rfl, fun j hj hle => ?_⟩
    rcases hc j hj hle with rfl | e
    · exact hn
    · exact h j hj e
  · refine .inr ⟨j0, hj0, by omega, h2, h3, fun j hj hle => ?_⟩
    rcases hc j (by omega) hle with rfl | e
    · exact hn
    · exact h4 j hj e
/-- The first of two rows that grow side by side has grown. -/
theorem two_arm1 {wt wr w4 : World} {v1 v2 v4 : Value} {ys zs : List Int} {q o : Nat} {y1 y2 : Int} (hB : Below wt.heap.size wt wr) (hq : q < wt.heap.size) (hc : wr.cell? ⟨q, o, none⟩ = some (.int .i64 y2))
    (h2 : Ow i64 3 wr wt.heap.size v2 ys) (hap : ∀ i, v1.ownBlock = some i → v2.ownBlock ≠ some i)
    (ho4 : Ow i64 3 w4 wt.heap.size v4 zs) (hb4 : Below wt.heap.size (wr.alloc (.cells #[.int .i64 y1] 3)) w4) (hg4 : (wr.alloc (.cells #[.int .i64 y1] 3)).grownBy w4 v1.ownBlock) (hv4 : v4.ownBlock = v1.ownBlock ∨ v4.ownBlock = some (wr.alloc (.cells #[.int .i64 y1] 3)).heap.size) :
    Ow i64 3 w4 wt.heap.size v2 ys ∧ (∀ i, v4.ownBlock = some i → v2.ownBlock ≠ some i) ∧ Below wt.heap.size wt w4 ∧ w4.cell? ⟨q, o, none⟩ = some (.int .i64 y2) := by
  refine ⟨(h2.alloc (.cells #[.int .i64 y1] 3)).kept hg4 ?_, fun i e f => ?_, hB.trans (((Below.refl _ _).alloc hB.size _).trans hb4), ((((Below.refl _ _).alloc hB.size (.cells #[.int .i64 y1] 3)).trans hb4).cell (p := ⟨q, o, none⟩) hq).trans hc⟩
  · cases hh : v2.ownBlock with
    | none => exact .inl rfl
    | some i => exact .inr (fun e => hap i e.symm hh)
  · rcases hv4 with h | h
    · exact hap i (h ▸ e) f
    · rw [h] at e
      injection e with e
      simp at e
      have := (h2.lt i f).2
      omega
/-- So has the second. -/
theorem two_arm2 {wt w4 w5 : World} {v2 v4 v5 : Value} {zs us : List Int} {y2 : Int} (h1 : Ow i64 3 w4 wt.heap.size v4 zs) (hap : ∀ i, v4.ownBlock = some i → v2.ownBlock ≠ some i) (hB : Below wt.heap.size wt w4)
    (ho5 : Ow i64 3 w5 wt.heap.size v5 us) (hb5 : Below wt.heap.size (w4.alloc (.cells #[.int .i64 y2] 3)) w5) (hg5 : (w4.alloc (.cells #[.int .i64 y2] 3)).grownBy w5 v2.ownBlock) (hv5 : v5.ownBlock = v2.ownBlock ∨ v5.ownBlock = some (w4.alloc (.cells #[.int .i64 y2] 3)).heap.size) :
    Ow i64 3 w5 wt.heap.size v4 zs ∧ Ow i64 3 w5 wt.heap.size v5 us ∧ (∀ i, v4.ownBlock = some i → v5.ownBlock ≠ some i) ∧ Below wt.heap.size wt w5 := by
  refine ⟨(h1.alloc (.cells #[.int .i64 y2] 3)).kept hg5 ?_, ho5, fun i e f => ?_, hB.trans (((Below.refl _ _).alloc hB.size _).trans hb5)⟩
  · cases hh : v4.ownBlock with
    | none => exact .inl rfl
    | some i => exact .inr (fun e => hap i hh e.symm)
  · rcases hv5 with h | h
    · exact hap i e (h ▸ f)
    · rw [h] at f
      injection f with f
      simp at f
      have := (h1.lt i e).2
      omega
theorem fo_reg (Q : Exit → Act → World → Prop) (a0 : Act) (w : World) (q H k N c : Nat) (y n : Int) (r : Bool) (hq : q < w.heap.size) (hH : H < w.heap.size) (k1 : w.cell? ⟨q, k * 2 + 1, none⟩ = some (.int .i64 y)) (k2 : w.cell? ⟨H, 1, none⟩ = some (.int .i64 n)) (p1 : (0 : Int) ≤ (k : Int)) (p2 : (k : Int) < (N : Int)) (hr : (y == n) = r) (hsz : a0.tmps.size = 293) (sl6 : a0.tmps.getD 6 undef = .slice (some ⟨q, 0, none⟩) N c) (sl9 : a0.tmps.getD 9 undef = .pointer (some ⟨H, 0, none⟩)) (sl13 : a0.tmps.getD 13 undef = .int .i64 k)
    (fin : ∀ (vals : Nat → Value) (w1 : World), Below w.heap.size w w1 → (IsV (.bool r)) (vals 7) w1 → Q .normal (putD vals [66, 67, 68, 69, 70, 71, 72, 73] 0 a0) w1) :
    (Code.region 23 (regIn Try.f3 23) true).wp Try.prog Q a0 w := by
  refine region_by (G := fun w w1 => Below w.heap.size w w1) [IsV (.slice (some ⟨q, 0, none⟩) N c),
    IsV (.int .i64 k),
    IsV (.pointer (some ⟨q, k * 2, none⟩)),
    IsV (.pointer (some ⟨q, k * 2 + 1, none⟩)),
    IsV (.int .i64 y),
    IsV (.pointer (some ⟨H, 1, none⟩)),
    IsV (.int .i64 n),
    IsV (.bool r)]
    [66, 67, 68, 69, 70, 71, 72, 73] (by kernel_rfl) (Gw.drew _) Gw.trans (by rw [hsz]; kernel_rfl) (by kernel_rfl) ?_ ?_ ?_
  · intro f hf
    simp only [List.mem_cons, List.not_mem_nil, or_false] at hf
    rcases hf with rfl | rfl | rfl | rfl | rfl | rfl | rfl | rfl <;> intro v a b h g <;> first | exact IsV.mono h
  · refine ⟨?_, ?_, ?_, ?_, ?_, ?_, ?_, ?_, trivial⟩
    · exact owes_mv 6 (by kernel_rfl) (by kernel_rfl) (by kernel_rfl) sl6 (fun _ => rfl)
    · exact owes_mv 13 (by kernel_rfl) (by kernel_rfl) (by kernel_rfl) sl13 (fun _ => rfl)
    · refine owes_v (Go.Op.indexAddr 26 (Go.Operand.tmp 66) (Go.Operand.tmp 67)) 0 [0, 1] (by kernel_rfl) (by kernel_rfl) (by kernel_rfl) rfl fun vals w1 ρ hG hF hρ hcst hfun => ?_
      have e66 : ρ (.tmp 66) = .slice (some ⟨q, 0, none⟩) N c := ((hρ 66).trans (slotJ [0, 1] (by rw [hsz]; decide) (by kernel_rfl))).trans (hF 0 (by decide))
      have e67 : ρ (.tmp 67) = .int .i64 k := ((hρ 67).trans (slotJ [0, 1] (by rw [hsz]; decide) (by kernel_rfl))).trans (hF 1 (by decide))
      clear hρ hF hcst hfun sl6 sl9 sl13 fin
      exact opv_val (by go_simp <;> rfl) ⟨gw_self _, rfl⟩
    · refine owes_v (Go.Op.fieldAddr 31 (Go.Operand.tmp 68) 1) 0 [2] (by kernel_rfl) (by kernel_rfl) (by kernel_rfl) rfl fun vals w1 ρ hG hF hρ hcst hfun => ?_
      have e68 : ρ (.tmp 68) = .pointer (some ⟨q, k * 2, none⟩) := ((hρ 68).trans (slotJ [2] (by rw [hsz]; decide) (by kernel_rfl))).trans (hF 2 (by decide))
      clear hρ hF hcst hfun sl6 sl9 sl13 fin
      exact opv_val (by go_simp <;> rfl) ⟨gw_self _, rfl⟩
    · refine owes_v (Go.Op.load 3 (Go.Operand.tmp 69)) 3 [3] (by kernel_rfl) (by kernel_rfl) (by kernel_rfl) rfl fun vals w1 ρ hG hF hρ hcst hfun => ?_
      have e69 : ρ (.tmp 69) = .pointer (some ⟨q, k * 2 + 1, none⟩) := ((hρ 69).trans (slotJ [3] (by rw [hsz]; decide) (by kernel_rfl))).trans (hF 3 (by decide))
      have k := (hG.cell (p := ⟨q, k * 2 + 1, none⟩) hq).trans k1
      clear hρ hF hcst hfun sl6 sl9 sl13 fin
      exact opv_val (by go_simp <;> rfl) ⟨gw_self _, rfl⟩
    · refine owes_v (Go.Op.fieldAddr 29 (Go.Operand.tmp 9) 1) 0 [] (by kernel_rfl) (by kernel_rfl) (by kernel_rfl) rfl fun vals w1 ρ hG hF hρ hcst hfun => ?_
      have e9 : ρ (.tmp 9) = .pointer (some ⟨H, 0, none⟩) := ((hρ 9).trans (slotO [] (by kernel_rfl))).trans sl9
      clear hρ hF hcst hfun sl6 sl9 sl13 fin
      exact opv_val (by go_simp <;> rfl) ⟨gw_self _, rfl⟩
    · refine owes_v (Go.Op.load 3 (Go.Operand.tmp 71)) 3 [5] (by kernel_rfl) (by kernel_rfl) (by kernel_rfl) rfl fun vals w1 ρ hG hF hρ hcst hfun => ?_
      have e71 : ρ (.tmp 71) = .pointer (some ⟨H, 1, none⟩) := ((hρ 71).trans (slotJ [5] (by rw [hsz]; decide) (by kernel_rfl))).trans (hF 5 (by decide))
      have k := (hG.cell (p := ⟨H, 1, none⟩) hH).trans k2
      clear hρ hF hcst hfun sl6 sl9 sl13 fin
      exact opv_val (by go_simp <;> rfl) ⟨gw_self _, rfl⟩
    · refine owes_v (Go.Op.binOp Go.BinOp.eql 3 (Go.Operand.tmp 70) (Go.Operand.tmp 72) 3) 4 [4, 6] (by kernel_rfl) (by kernel_rfl) (by kernel_rfl) rfl fun vals w1 ρ hG hF hρ hcst hfun => ?_
      have e70 : ρ (.tmp 70) = .int .i64 y := ((hρ 70).trans (slotJ [4, 6] (by rw [hsz]; decide) (by kernel_rfl))).trans (hF 4 (by decide))
      have e72 : ρ (.tmp 72) = .int .i64 n := ((hρ 72).trans (slotJ [4, 6] (by rw [hsz]; decide) (by kernel_rfl))).trans (hF 6 (by decide))
      clear hρ hF hcst hfun sl6 sl9 sl13 fin
      exact opv_val (by go_simp <;> rfl) ⟨gw_self _, rfl⟩
  · intro vals w1 hG hF
    exact fin vals w1 hG (hF 7 (by decide +kernel))
end Go.Proofs.Ytflocdghpnjoaaa
