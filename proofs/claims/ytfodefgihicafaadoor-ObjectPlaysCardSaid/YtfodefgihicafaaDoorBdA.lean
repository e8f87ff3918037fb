/- strings.Builder: what is written, and which blocks stay (copyCheck, WriteString, WriteByte). Conditions: lengths. -/
import Derived.Test.YtfodefgihicafaaDoorSpA
import Derived.Test.YtfodefgihicafaaDoorStr
import Derived.Lib.Builder
import Derived.Lib.AppendStr
import Derived.Laws.Externs
namespace Go.Proofs.YtfodefgihicafaaDoor
set_option linter.unusedVariables false
set_option linter.unusedSimpArgs false
open Go.RowKit
theorem strB_len (ys : List (BitVec 8)) : (strB ys).size = ys.length := by
  show (strL ys).toArray.size = _
  simp [strL]
theorem strB_cells (ys : List (BitVec 8)) : Lib.strCells (strB ys) = ys.map b8 := by
  unfold Lib.strCells strB strL b8 U8
  simp
/-- A builder of one's own: its box, its row, what it holds. -/
structure BdAt (W : World) (B b : Nat) (v : Value) (xs : List (BitVec 8)) : Prop where
  ge : B ≤ b
  box : ∃ p, (p = .pointer none ∨ p = .pointer (some ⟨b, 0, none⟩)) ∧ Bk W b 101 #[p, v]
  own : Ow b8 5 W B v xs
section
variable {W W' : World} {B b : Nat} {v : Value} {xs : List (BitVec 8)}
theorem BdAt.lt (h : BdAt W B b v xs) : b < W.heap.size := by obtain ⟨p, _, hb⟩ := h.box; exact hb.lt
theorem BdAt.below (h : BdAt W B b v xs) (hb : Below W.heap.size W W') : BdAt W' B b v xs := by
  obtain ⟨p, h1, h2⟩ := h.box
  exact ⟨h.ge, ⟨p, h1, h2.below hb h2.lt⟩, h.own.below hb⟩
theorem BdAt.ne (h : BdAt W B b v xs) : v.ownBlock ≠ some b := by
  intro e
  obtain ⟨p, _, hb⟩ := h.box
  rcases h.own.2 with ⟨e2, _⟩ | ⟨g, cap, cur, e2, _, hh, _⟩
  · rw [e2] at e; cases e
  · rw [e2] at e
    injection e with e
    have e3 : g = b := e
    subst e3
    have h2 : W.heap[g]? = _ := hb
    rw [hh] at h2
    injection h2 with h2
    injection h2 with _ h3
    exact absurd h3 (by decide)
theorem BdAt.of_lib {p : Value} (h : BdAt W B b v xs) : Lib.IsBuilder 101 5 B b (xs.map b8) W := by
  obtain ⟨p, h1, h2⟩ := h.box
  have hown : W.ownsRow B 5 1 v (xs.map b8).length (xs.map b8) := by rw [List.length_map]; exact h.own
  rcases h1 with rfl | rfl
  · exact .inl ⟨h.ge, v, h2, hown, h.ne⟩
  · exact .inr ⟨h.ge, v, h2, hown, h.ne⟩
end
theorem bd_size : (Tryd.prog.info? 101).map (·.size) = some 2 := by kernel_rfl
set_option maxHeartbeats 1000000
set_option maxRecDepth 100000
theorem cc_used (b : Nat) (w : World) (h0 : w.cell? ⟨b, 0, none⟩ = some (.pointer (some ⟨b, 0, none⟩))) :
    Calls Tryd.prog 73 #[.pointer (some ⟨b, 0, none⟩)] w fun e w' => e = .returned (.tuple #[]) ∧ w' = w := by
  obtain ⟨j, hj, _⟩ := Option.map_eq_some_iff.1 bd_size
  go_enter Tryd.func73, Tryd.ntmps73
  go_wp2
  rw [Lib.run_neq_ptr_same w _ Tryd.underlying99 hj]
  go_wp2
  go_end0
  exact ⟨rfl, rfl⟩
theorem cc_fresh (b : Nat) (w : World) (h0 : w.cell? ⟨b, 0, none⟩ = some (.pointer none)) (hsh : w.shape? b = some (101, 2)) (hfz : w.frozen? ⟨b, 0, none⟩ = false) :
    Calls Tryd.prog 73 #[.pointer (some ⟨b, 0, none⟩)] w fun e w' => e = .returned (.tuple #[]) ∧ w' = w.setCell ⟨b, 0, none⟩ (.pointer (some ⟨b, 0, none⟩)) := by
  obtain ⟨j, hj, hjs⟩ := Option.map_eq_some_iff.1 bd_size
  go_enter Tryd.func73, Tryd.ntmps73
  go_wp2
  rw [Lib.run_to_unsafe w ⟨b, 0, none⟩ Tryd.underlying99 Tryd.underlying133 hj (by rw [hjs]; decide) hsh (Nat.zero_lt_succ 1)]
  simp only [Result.andThen]
  rw [Oper.upon_value]
  go_wp2
  rw [run_callFunc_extern Tryd.func81 (by kernel_rfl) (by kernel_rfl) (by kernel_rfl) (e := Extern.AbiNoEscape.same) (by kernel_rfl)]
  rw [Lib.run_noEscape]
  simp only [Result.andThen]
  rw [Oper.upon_value]
  go_wp2
  rw [Lib.run_from_unsafe w ⟨b, 0, none⟩ Tryd.underlying133 Tryd.underlying99 hj hsh (by kernel_rfl)]
  simp only [Result.andThen]
  rw [Oper.upon_value]
  go_wp2
  go_end0
  exact ⟨rfl, rfl⟩
/-- The builder is checked: used from now on. -/
def CcP (W : World) (b : Nat) (v : Value) (e : Ending) (w' : World) : Prop := e = .returned (.tuple #[]) ∧ Bk w' b 101 #[.pointer (some ⟨b, 0, none⟩), v] ∧ W.grownBy w' (some b)
theorem cc_c {B b : Nat} {v : Value} {xs : List (BitVec 8)} (w : World) (h : BdAt w B b v xs) : Calls Tryd.prog 73 #[.pointer (some ⟨b, 0, none⟩)] w (CcP w b v) := by
  obtain ⟨p, h1, hb⟩ := h.box
  rcases h1 with rfl | rfl
  · refine (cc_fresh b w (hb.cell 0) ?_ (hb.free 0)).mono ?_
    · have h2 : w.heap[b]? = _ := hb
      simp [World.shape?, h2]
    · rintro e w' ⟨rfl, rfl⟩
      refine ⟨rfl, ?_, grown_set w ⟨b, 0, none⟩ _⟩
      have k := hb.set 0 (.pointer (some ⟨b, 0, none⟩))
      simpa using k
  · refine (cc_used b w (hb.cell 0)).mono ?_
    rintro e w' ⟨rfl, rfl⟩
    exact ⟨rfl, hb, grown_refl _ _⟩
theorem byte_info : (Tryd.prog.info? 5).map (fun i => (i.zero, i.size, i.bytes)) = some (some (.int .u8 0), 1, 1) := by kernel_rfl
/-- A string behind a row of bytes: the row is the old one, or new. -/
theorem app_str (w : World) (ty : TypeId) (base : Nat) (v : Value) (xs ys : List (BitVec 8)) (h : Ow b8 5 w base v xs) (hl : xs.length + ys.length ≤ 4294967296) (hb : base ≤ w.heap.size) :
    ∃ v' w', (Builtin.append_ #[30, 9] ty #[v, .string (strB ys)]).run Tryd.prog w = .ok v' w' ∧ Ow b8 5 w' base v' (xs ++ ys) ∧ w.grownBy w' v.ownBlock ∧ (v'.ownBlock = v.ownBlock ∨ v'.ownBlock = some w.heap.size) := by
  obtain ⟨i0, hi, hz0, hz1, hz2⟩ := info_parts byte_info
  have e0 := strB_len ys
  obtain ⟨v', w', hrun, ho, hg, hnil⟩ := Lib.run_append_own_string (P := Tryd.prog) w base 30 9 ty 5 i0 Tryd.underlying30 Tryd.underlying9 hi hz0 hz1 hz2 v xs.length (xs.map b8) h (strB ys) (by rw [e0]; unfold maxLen; omega) (by rw [e0]; omega) hb
  refine ⟨v', w', hrun, ?_, hg, ?_⟩
  · unfold Ow
    rw [List.length_append, List.map_append, ← strB_cells ys, ← e0]
    exact ho
  · rcases h.2 with ⟨rfl, hn⟩ | ⟨g, cap, cur, rfl, hbg, hh, hnc, hcm, hcs, htk⟩
    · by_cases hm : (strB ys).size = 0
      · left
        rw [hnil.2 ⟨rfl, hm⟩]
      · right
        have hr := run_append_nil_string (P := Tryd.prog) w 30 9 ty 5 i0 (.int .u8 0) Tryd.underlying30 Tryd.underlying9 hi hz0 (strB ys) (by omega) (by rw [e0]; omega) (by rw [hz2, e0]; omega)
        rw [hr] at hrun
        injection hrun with h1 h2
        rw [← h1]; rfl
    · by_cases hroom : xs.length + (strB ys).size ≤ cap
      · left
        have hr := Lib.run_append_room_string (P := Tryd.prog) w 30 9 ty 5 i0 Tryd.underlying30 Tryd.underlying9 hi hz1 g xs.length cap cur hh (strB ys) hroom (by omega)
        rw [hr] at hrun
        injection hrun with h1 h2
        rw [← h1]; rfl
      · right
        have hr := Lib.run_append_grow_string (P := Tryd.prog) w 30 9 ty 5 i0 (.int .u8 0) Tryd.underlying30 Tryd.underlying9 hi hz0 ⟨g, 0, none⟩ xs.length cap (xs.map b8) (by rw [hz1]; simp) (World.ownsRow.cells h (g := g) rfl) (strB ys) (by omega) (by rw [e0]; omega) (by rw [hz2]; exact growslice_fits (by rw [e0]; omega) (by rw [e0]; omega))
        rw [hr] at hrun
        injection hrun with h1 h2
        rw [← h1]; rfl
/-- Of the old world only the builder's box and its row have changed; its row is the old one, or new. -/
structure BdK (w w' : World) (b : Nat) (v v' : Value) : Prop where
  two : Two w w' b v.ownBlock
  row : v'.ownBlock = v.ownBlock ∨ ∃ k, v'.ownBlock = some k ∧ w.heap.size ≤ k
theorem BdAt.kb {w w' : World} {B b : Nat} {v v' : Value} {xs : List (BitVec 8)} (h : BdAt w B b v xs) (k : BdK w w' b v v') (hB : B ≤ w.heap.size) : Below B w w' :=
  ⟨k.two.os, k.two.tape, k.two.output, k.two.size, fun i hi => k.two.block i (by omega) (by have := h.ge; omega) (fun e => by have := (h.own.lt i e.symm).1; omega)⟩
theorem wp_app_str {ops : Array Oper} {rest : List Oper} {o : Oper} {a : Act} {w : World} {Q : Exit → Act → World → Prop} (hgd : o.guard = none) (sl x : Operand)
    (ho : o.op = .call { callee := .builtin .append, args := #[sl, x], argTypes := #[30, 9] }) (base : Nat) (v : Value) (xs ys : List (BitVec 8)) (hs : a.eval sl = v) (hown : Ow b8 5 w base v xs) (hx : a.eval x = .string (strB ys))
    (hl : xs.length + ys.length ≤ 4294967296) (hb : base ≤ w.heap.size)
    (h : ∀ v' w', Ow b8 5 w' base v' (xs ++ ys) → w.grownBy w' v.ownBlock → (v'.ownBlock = v.ownBlock ∨ v'.ownBlock = some w.heap.size) → wpList Tryd.prog ops Q rest (a.put o.dst v') w') : wpList Tryd.prog ops Q (o :: rest) a w := by
  refine wpList_plain hgd fun K hK => ?_
  obtain ⟨v', w', hr, h2, h3, h4⟩ := app_str w o.type base v xs ys hown hl hb
  unfold Oper.wp execOp
  simp only [ho, resolve, invoke, builtin, Sem.run_bind, Sem.run_pure, Result.andThen_ok, List.map_toArray, List.map_cons, List.map_nil, hs, hx, hr]
  exact hK _ _ (h v' w' h2 h3 h4)
def WsP (w : World) (B b : Nat) (v : Value) (xs ys : List (BitVec 8)) (r : Value) (e : Ending) (w' : World) : Prop := ∃ v', e = .returned r ∧ BdAt w' B b v' (xs ++ ys) ∧ BdK w w' b v v'
theorem writeString_c (w : World) (B b : Nat) (v : Value) (xs ys : List (BitVec 8)) (h : BdAt w B b v xs) (hl : xs.length + ys.length ≤ 4294967296) (hB : B ≤ w.heap.size) :
    Calls Tryd.prog 50 #[.pointer (some ⟨b, 0, none⟩), .string (strB ys)] w (WsP w B b v xs ys (.tuple #[.int .i64 (strB ys).size, .nilIface])) := by
  have HCc := Lib.hid (cc_c w h)
  have HH := Lib.hid (And.intro h (And.intro hl hB))
  obtain ⟨sb, hsb⟩ : ∃ sb, sb = strB ys := ⟨_, rfl⟩
  rw [← hsb]
  have HSb := Lib.hid hsb
  clear h hl hB hsb
  go_enter Tryd.func50, Tryd.ntmps50
  go_wp2_with fail
  refine Calls.mono HCc.out ?_
  rintro r w1 ⟨rfl, hb1, hg1⟩
  have hz1 := hg1.size
  have c0 := hb1.cell 0
  have c1 := hb1.cell 1
  have HB1 := Lib.hid (And.intro hb1 hg1)
  have HO1 := Lib.hid (HH.out.1.own.kept hg1 (.inr HH.out.1.ne))
  clear hb1 hg1
  go_wp2_with (at_builtin; refine wp_app_str rfl (.tmp 12) (.tmp 13) rfl B v xs ys rfl HO1.out (congrArg Value.string HSb.out) HH.out.2.1 (Nat.le_trans HH.out.2.2 hz1) ?_; intro v2 w2 ho2 hg2 hv2; have H2 := Lib.hid (And.intro ho2 (And.intro hg2 hv2)); have hb2 : Bk w2 b 101 #[.pointer (some ⟨b, 0, none⟩), v] := (hg2.block b HB1.out.1.lt (fun e => HH.out.1.ne e.symm)).trans HB1.out.1; obtain ⟨A2, n2, k2, rfl⟩ : ∃ A n k, v2 = .slice A n k := by { obtain ⟨A, k, e, _⟩ := ho2.form; exact ⟨_, _, _, e⟩ }; have d0 := hb2.cell 0; have d1 := hb2.cell 1; have f1 := hb2.free 1; have HB2 := Lib.hid hb2; clear ho2 hg2 hv2 hb2)
  go_ret2
  have hbs := HB2.out.set 1 (.slice A2 n2 k2)
  refine ⟨.slice A2 n2 k2, rfl, ⟨HH.out.1.ge, ⟨_, .inr rfl, by simpa using hbs⟩, H2.out.1.kept (grown_set w2 ⟨b, 1, none⟩ _) ?_⟩, ⟨?_, ?_⟩⟩
  · refine .inr (fun e => ?_)
    rcases H2.out.1.2 with ⟨e2, _⟩ | ⟨g, cap, cur, e2, _, hh, _⟩
    · rw [e2] at e; cases e
    · rw [e2] at e
      injection e with e
      have e3 : g = b := e
      subst e3
      have h2 : w2.heap[g]? = _ := HB2.out
      rw [hh] at h2
      injection h2 with h2
      injection h2 with _ h3
      exact absurd h3 (by decide)
  · have t1 : Two w w1 b v.ownBlock := ⟨HB1.out.2.os, HB1.out.2.tape, HB1.out.2.output, HB1.out.2.size, fun k hk h1 _ => HB1.out.2.block k hk (fun e => h1 (by injection e))⟩
    exact (t1.trans (Two.grown H2.out.2.1)).trans (Two.setc w2 b 1 _ _)
  · rcases H2.out.2.2 with e | e
    · exact .inl e
    · exact .inr ⟨_, e, hz1⟩
theorem writeByte_c (w : World) (B b : Nat) (v : Value) (xs : List (BitVec 8)) (c : BitVec 8) (h : BdAt w B b v xs) (hl : xs.length + 1 ≤ 4294967296) (hB : B ≤ w.heap.size) :
    Calls Tryd.prog 52 #[.pointer (some ⟨b, 0, none⟩), .int .u8 (U8 c)] w (WsP w B b v xs [c] .nilIface) := by
  have HCc := Lib.hid (cc_c w h)
  have HH := Lib.hid (And.intro h (And.intro hl hB))
  obtain ⟨z, hz⟩ : ∃ z, z = U8 c := ⟨_, rfl⟩
  rw [← hz]
  have HZ := Lib.hid hz
  clear h hl hB hz
  go_enter Tryd.func52, Tryd.ntmps52
  go_wp2_with fail
  refine Calls.mono HCc.out ?_
  rintro r w1 ⟨rfl, hb1, hg1⟩
  have hz1 := hg1.size
  have c0 := hb1.cell 0
  have c1 := hb1.cell 1
  have HB1 := Lib.hid (And.intro hb1 hg1)
  have HO1 := Lib.hid (HH.out.1.own.kept hg1 (.inr HH.out.1.ne))
  clear hb1 hg1
  have HRz := Lib.hid (show Rd b8 (w1.alloc (.cells #[.int .u8 z] 5)) (w1.heap.size + 1) (some ⟨w1.heap.size, 0, none⟩) [c] from rd1_new (by rw [HZ.out]; rfl))
  have HSz := Lib.hid (show B ≤ (w1.alloc (.cells #[.int .u8 z] 5)).heap.size from Nat.le_trans (Nat.le_trans HH.out.2.2 hz1) (Gw.alloc w1 _).size)
  have HL1 := Lib.hid (show xs.length + [c].length ≤ 4294967296 from HH.out.2.1)
  go_wp2_with (at_builtin; refine wp_app one8 b8_one rfl (.tmp 11) (.tmp 13) rfl B v xs rfl (HO1.out.alloc _) (some ⟨w1.heap.size, 0, none⟩) 1 1 [c] rfl rfl (w1.heap.size + 1) HRz.out HL1.out (by decide) HSz.out ?_; intro v2 w2 ho2 hbl2 hg2 hv2; have H2 := Lib.hid (And.intro ho2 (And.intro hg2 hv2)); have hb2 : Bk w2 b 101 #[.pointer (some ⟨b, 0, none⟩), v] := (hg2.block b (HB1.out.1.alloc _).lt (fun e => HH.out.1.ne e.symm)).trans (HB1.out.1.alloc _); obtain ⟨A2, n2, k2, rfl⟩ : ∃ A n k, v2 = .slice A n k := by { obtain ⟨A, k, e, _⟩ := ho2.form; exact ⟨_, _, _, e⟩ }; have d0 := hb2.cell 0; have d1 := hb2.cell 1; have f1 := hb2.free 1; have HB2 := Lib.hid hb2; clear ho2 hg2 hv2 hb2 hbl2)
  go_ret
  have hbs := HB2.out.set 1 (.slice A2 n2 k2)
  refine ⟨.slice A2 n2 k2, rfl, ⟨HH.out.1.ge, ⟨_, .inr rfl, by simpa using hbs⟩, H2.out.1.kept (grown_set w2 ⟨b, 1, none⟩ _) ?_⟩, ⟨?_, ?_⟩⟩
  · refine .inr (fun e => ?_)
    rcases H2.out.1.2 with ⟨e2, _⟩ | ⟨g, cap, cur, e2, _, hh, _⟩
    · rw [e2] at e; cases e
    · rw [e2] at e
      injection e with e
      have e3 : g = b := e
      subst e3
      have h2 : w2.heap[g]? = _ := HB2.out
      rw [hh] at h2
      injection h2 with h2
      injection h2 with _ h3
      exact absurd h3 (by decide)
  · have t1 : Two w w1 b v.ownBlock := ⟨HB1.out.2.os, HB1.out.2.tape, HB1.out.2.output, HB1.out.2.size, fun k hk h1 _ => HB1.out.2.block k hk (fun e => h1 (by injection e))⟩
    exact ((t1.trans (Two.below (Gw.alloc w1 (.cells #[.int .u8 z] 5)))).trans (Two.grown H2.out.2.1)).trans (Two.setc w2 b 1 _ _)
  · rcases H2.out.2.2 with e | e
    · exact .inl e
    · exact .inr ⟨_, e, Nat.le_trans hz1 (Gw.alloc w1 _).size⟩
end Go.Proofs.YtfodefgihicafaaDoor
