/- Texts joined: BdA BdB BdC Laid16 RegS RegT2 CrcA CrcB. -/
import Derived.Test.YtfodefgihicafaaDoorObF
import Derived.Test.YtfodefgihicafaaDoorStr
import Derived.Lib.Builder
import Derived.Lib.AppendStr
import Derived.Laws.Externs
import Derived.Handy
import Derived.LoopN
import Derived.Shelf.Strings.Builder1
import Derived.Test.YtfodefgihicafaaDoorRegV
import Derived.Test.YtfodefgihicafaaDoorRegT
import Derived.Test.YtfodefgihicafaaDoorBitsB
import Derived.Test.YtfodefgihicafaaDoorBel
import Derived.LoopTactic
/- strings.Builder: what is written, and which blocks stay (copyCheck, WriteString, WriteByte). Conditions: lengths. -/
namespace Go.Proofs.YtfodefgihicafaaDoor
set_option linter.unusedVariables false
set_option linter.unusedSimpArgs false
open Go.RowKit
theorem strB_len (ys : List (BitVec 8)) : (strB ys).size = ys.length := by
  show (strL ys).toArray.size = _
  simp [strL]
theorem strB_cells (ys : List (BitVec 8)) : Lib.strCells (strB ys) = ys.map b8 := by
  unfold Lib.strCells strB strL b8 U8
  simp
/-- A builder of one's own: its box, its row, what it holds. -/
structure BdAt (W : World) (B b : Nat) (v : Value) (xs : List (BitVec 8)) : Prop where
  ge : B ≤ b
  box : ∃ p, (p = .pointer none ∨ p = .pointer (some ⟨b, 0, none⟩)) ∧ Bk W b 101 #[p, v]
  own : Ow b8 5 W B v xs
section
variable {W W' : World} {B b : Nat} {v : Value} {xs : List (BitVec 8)}
theorem BdAt.lt (h : BdAt W B b v xs) : b < W.heap.size := by obtain ⟨p, _, hb⟩ := h.box; exact hb.lt
theorem BdAt.below (h : BdAt W B b v xs) (hb : Below W.heap.size W W') : BdAt W' B b v xs := by
  obtain ⟨p, h1, h2⟩ := h.box
  exact ⟨h.ge, ⟨p, h1, h2.below hb h2.lt⟩, h.own.below hb⟩
theorem BdAt.ne (h : BdAt W B b v xs) : v.ownBlock ≠ some b := by
  intro e
  obtain ⟨p, _, hb⟩ := h.box
  rcases h.own.2 with ⟨e2, _⟩ | ⟨g, cap, cur, e2, _, hh, _⟩
  · rw [e2] at e; cases e
  · rw [e2] at e
    injection e with e
    have e3 : g = b := e
    subst e3
    have h2 : W.heap[g]? = _ := hb
    rw [hh] at h2
    injection h2 with h2
    injection h2 with _ h3
    exact absurd h3 (by decide)
theorem BdAt.of_lib {p : Value} (h : BdAt W B b v xs) : Lib.IsBuilder 101 5 B b (xs.map b8) W := by
  obtain ⟨p, h1, h2⟩ := h.box
  have hown : W.ownsRow B 5 1 v (xs.map b8).length (xs.map b8) := by rw [List.length_map]; exact h.own
  rcases h1 with rfl | rfl
  · exact .inl ⟨h.ge, v, h2, hown, h.ne⟩
  · exact .inr ⟨h.ge, v, h2, hown, h.ne⟩
end
theorem bd_size : (Tryd.prog.info? 101).map (·.size) = some 2 := by kernel_rfl
set_option maxHeartbeats 1000000
set_option maxRecDepth 100000
theorem cc_used (b : Nat) (w : World) (h0 : w.cell? ⟨b, 0, none⟩ = some (.pointer (some ⟨b, 0, none⟩))) :
    Calls Tryd.prog 73 #[.pointer (some ⟨b, 0, none⟩)] w fun e w' => e = .returned (.tuple #[]) ∧ w' = w := by
  obtain ⟨j, hj, _⟩ := Option.map_eq_some_iff.1 bd_size
  go_enter Tryd.func73, Tryd.ntmps73
  go_wp2
  rw [Lib.run_neq_ptr_same w _ Tryd.underlying99 hj]
  go_wp2
  go_end0
  exact ⟨rfl, rfl⟩
theorem cc_fresh (b : Nat) (w : World) (h0 : w.cell? ⟨b, 0, none⟩ = some (.pointer none)) (hsh : w.shape? b = some (101, 2)) (hfz : w.frozen? ⟨b, 0, none⟩ = false) :
    Calls Tryd.prog 73 #[.pointer (some ⟨b, 0, none⟩)] w fun e w' => e = .returned (.tuple #[]) ∧ w' = w.setCell ⟨b, 0, none⟩ (.pointer (some ⟨b, 0, none⟩)) := by
  obtain ⟨j, hj, hjs⟩ := Option.map_eq_some_iff.1 bd_size
  go_enter Tryd.func73, Tryd.ntmps73
  go_wp2
  rw [Lib.run_to_unsafe w ⟨b, 0, none⟩ Tryd.underlying99 Tryd.underlying133 hj (by rw [hjs]; decide) hsh (Nat.zero_lt_succ 1)]
  simp only [Result.andThen]
  rw [Oper.upon_value]
  go_wp2
  rw [run_callFunc_extern Tryd.func81 (by kernel_rfl) (by kernel_rfl) (by kernel_rfl) (e := Extern.AbiNoEscape.same) (by kernel_rfl)]
  rw [Lib.run_noEscape]
  simp only [Result.andThen]
  rw [Oper.upon_value]
  go_wp2
  rw [Lib.run_from_unsafe w ⟨b, 0, none⟩ Tryd.underlying133 Tryd.underlying99 hj hsh (by kernel_rfl)]
  simp only [Result.andThen]
  rw [Oper.upon_value]
  go_wp2
  go_end0
  exact ⟨rfl, rfl⟩
/-- The builder is checked: used from now on. -/
def CcP (W : World) (b : Nat) (v : Value) (e : Ending) (w' : World) : Prop := e = .returned (.tuple #[]) ∧ Bk w' b 101 #[.pointer (some ⟨b, 0, none⟩), v] ∧ W.grownBy w' (some b)
theorem cc_c {B b : Nat} {v : Value} {xs : List (BitVec 8)} (w : World) (h : BdAt w B b v xs) : Calls Tryd.prog 73 #[.pointer (some ⟨b, 0, none⟩)] w (CcP w b v) := by
  obtain ⟨p, h1, hb⟩ := h.box
  rcases h1 with rfl | rfl
  · refine (cc_fresh b w (hb.cell 0) ?_ (hb.free 0)).mono ?_
    · have h2 : w.heap[b]? = _ := hb
      simp [World.shape?, h2]
    · rintro e w' ⟨rfl, rfl⟩
      refine ⟨rfl, ?_, grown_set w ⟨b, 0, none⟩ _⟩
      have k := hb.set 0 (.pointer (some ⟨b, 0, none⟩))
      simpa using k
  · refine (cc_used b w (hb.cell 0)).mono ?_
    rintro e w' ⟨rfl, rfl⟩
    exact ⟨rfl, hb, grown_refl _ _⟩
theorem byte_info : (Tryd.prog.info? 5).map (fun i => (i.zero, i.size, i.bytes)) = some (some (.int .u8 0), 1, 1) := by kernel_rfl
/-- A string behind a row of bytes: the row is the old one, or new. -/
theorem app_str (w : World) (ty : TypeId) (base : Nat) (v : Value) (xs ys : List (BitVec 8)) (h : Ow b8 5 w base v xs) (hl : xs.length + ys.length ≤ 4294967296) (hb : base ≤ w.heap.size) :
    ∃ v' w', (Builtin.append_ #[30, 9] ty #[v, .string (strB ys)]).run Tryd.prog w = .ok v' w' ∧ Ow b8 5 w' base v' (xs ++ ys) ∧ w.grownBy w' v.ownBlock ∧ (v'.ownBlock = v.ownBlock ∨ v'.ownBlock = some w.heap.size) := by
  obtain ⟨i0, hi, hz0, hz1, hz2⟩ := info_parts byte_info
  have e0 := strB_len ys
  obtain ⟨v', w', hrun, ho, hg, hnil⟩ := Lib.run_append_own_string (P := Tryd.prog) w base 30 9 ty 5 i0 Tryd.underlying30 Tryd.underlying9 hi hz0 hz1 hz2 v xs.length (xs.map b8) h (strB ys) (by rw [e0]; unfold maxLen; omega) (by rw [e0]; omega) hb
  refine ⟨v', w', hrun, ?_, hg, ?_⟩
  · unfold Ow
    rw [List.length_append, List.map_append, ← strB_cells ys, ← e0]
    exact ho
  · rcases h.2 with ⟨rfl, hn⟩ | ⟨g, cap, cur, rfl, hbg, hh, hnc, hcm, hcs, htk⟩
    · by_cases hm : (strB ys).size = 0
      · left
        rw [hnil.2 ⟨rfl, hm⟩]
      · right
        have hr := run_append_nil_string (P := Tryd.prog) w 30 9 ty 5 i0 (.int .u8 0) Tryd.underlying30 Tryd.underlying9 hi hz0 (strB ys) (by omega) (by rw [e0]; omega) (by rw [hz2, e0]; omega)
        rw [hr] at hrun
        injection hrun with h1 h2
        rw [← h1]; rfl
    · by_cases hroom : xs.length + (strB ys).size ≤ cap
      · left
        have hr := Lib.run_append_room_string (P := Tryd.prog) w 30 9 ty 5 i0 Tryd.underlying30 Tryd.underlying9 hi hz1 g xs.length cap cur hh (strB ys) hroom (by omega)
        rw [hr] at hrun
        injection hrun with h1 h2
        rw [← h1]; rfl
      · right
        have hr := Lib.run_append_grow_string (P := Tryd.prog) w 30 9 ty 5 i0 (.int .u8 0) Tryd.underlying30 Tryd.underlying9 hi hz0 ⟨g, 0, none⟩ xs.length cap (xs.map b8) (by rw [hz1]; simp) (World.ownsRow.cells h (g := g) rfl) (strB ys) (by omega) (by rw [e0]; omega) (by rw [hz2]; exact growslice_fits (by rw [e0]; omega) (by rw [e0]; omega))
        rw [hr] at hrun
        injection hrun with h1 h2
        rw [← h1]; rfl
/-- Of the old world only the builder's box and its row have changed; its row is the old one, or new. -/
structure BdK (w w' : World) (b : Nat) (v v' : Value) : Prop where
  two : Two w w' b v.ownBlock
  row : v'.ownBlock = v.ownBlock ∨ ∃ k, v'.ownBlock = some k ∧ w.heap.size ≤ k
theorem BdAt.kb {w w' : World} {B b : Nat} {v v' : Value} {xs : List (BitVec 8)} (h : BdAt w B b v xs) (k : BdK w w' b v v') (hB : B ≤ w.heap.size) : Below B w w' :=
  ⟨k.two.os, k.two.tape, k.two.output, k.two.size, fun i hi => k.two.block i (by omega) (by have := h.ge; omega) (fun e => by have := (h.own.lt i e.symm).1; omega)⟩
theorem wp_app_str {ops : Array Oper} {rest : List Oper} {o : Oper} {a : Act} {w : World} {Q : Exit → Act → World → Prop} (hgd : o.guard = none) (sl x : Operand)
    (ho : o.op = .call { callee := .builtin .append, args := #[sl, x], argTypes := #[30, 9] }) (base : Nat) (v : Value) (xs ys : List (BitVec 8)) (hs : a.eval sl = v) (hown : Ow b8 5 w base v xs) (hx : a.eval x = .string (strB ys))
    (hl : xs.length + ys.length ≤ 4294967296) (hb : base ≤ w.heap.size)
    (h : ∀ v' w', Ow b8 5 w' base v' (xs ++ ys) → w.grownBy w' v.ownBlock → (v'.ownBlock = v.ownBlock ∨ v'.ownBlock = some w.heap.size) → wpList Tryd.prog ops Q rest (a.put o.dst v') w') : wpList Tryd.prog ops Q (o :: rest) a w := by
  refine wpList_plain hgd fun K hK => ?_
  obtain ⟨v', w', hr, h2, h3, h4⟩ := app_str w o.type base v xs ys hown hl hb
  unfold Oper.wp execOp
  simp only [ho, resolve, invoke, builtin, Sem.run_bind, Sem.run_pure, Result.andThen_ok, List.map_toArray, List.map_cons, List.map_nil, hs, hx, hr]
  exact hK _ _ (h v' w' h2 h3 h4)
def WsP (w : World) (B b : Nat) (v : Value) (xs ys : List (BitVec 8)) (r : Value) (e : Ending) (w' : World) : Prop := ∃ v', e = .returned r ∧ BdAt w' B b v' (xs ++ ys) ∧ BdK w w' b v v'
theorem writeString_c (w : World) (B b : Nat) (v : Value) (xs ys : List (BitVec 8)) (h : BdAt w B b v xs) (hl : xs.length + ys.length ≤ 4294967296) (hB : B ≤ w.heap.size) :
    Calls Tryd.prog 50 #[.pointer (some ⟨b, 0, none⟩), .string (strB ys)] w (WsP w B b v xs ys (.tuple #[.int .i64 (strB ys).size, .nilIface])) := by
  have HCc := Lib.hid (cc_c w h)
  have HH := Lib.hid (And.intro h (And.intro hl hB))
  obtain ⟨sb, hsb⟩ : ∃ sb, sb = strB ys := ⟨_, rfl⟩
  rw [← hsb]
  have HSb := Lib.hid hsb
  clear h hl hB hsb
  go_enter Tryd.func50, Tryd.ntmps50
  go_wp2_with fail
  refine Calls.mono HCc.out ?_
  rintro r w1 ⟨rfl, hb1, hg1⟩
  have hz1 := hg1.size
  have c0 := hb1.cell 0
  have c1 := hb1.cell 1
  have HB1 := Lib.hid (And.intro hb1 hg1)
  have HO1 := Lib.hid (HH.out.1.own.kept hg1 (.inr HH.out.1.ne))
  clear hb1 hg1
  go_wp2_with (at_builtin; refine wp_app_str rfl (.tmp 12) (.tmp 13) rfl B v xs ys rfl HO1.out (congrArg Value.string HSb.out) HH.out.2.1 (Nat.le_trans HH.out.2.2 hz1) ?_; intro v2 w2 ho2 hg2 hv2; have H2 := Lib.hid (And.intro ho2 (And.intro hg2 hv2)); have hb2 : Bk w2 b 101 #[.pointer (some ⟨b, 0, none⟩), v] := (hg2.block b HB1.out.1.lt (fun e => HH.out.1.ne e.symm)).trans HB1.out.1; obtain ⟨A2, n2, k2, rfl⟩ : ∃ A n k, v2 = .slice A n k := by { obtain ⟨A, k, e, _⟩ := ho2.form; exact ⟨_, _, _, e⟩ }; have d0 := hb2.cell 0; have d1 := hb2.cell 1; have f1 := hb2.free 1; have HB2 := Lib.hid hb2; clear ho2 hg2 hv2 hb2)
  go_ret2
  have hbs := HB2.out.set 1 (.slice A2 n2 k2)
  refine ⟨.slice A2 n2 k2, rfl, ⟨HH.out.1.ge, ⟨_, .inr rfl, by simpa using hbs⟩, H2.out.1.kept (grown_set w2 ⟨b, 1, none⟩ _) ?_⟩, ⟨?_, ?_⟩⟩
  · refine .inr (fun e => ?_)
    rcases H2.out.1.2 with ⟨e2, _⟩ | ⟨g, cap, cur, e2, _, hh, _⟩
    · rw [e2] at e; cases e
    · rw [e2] at e
      injection e with e
      have e3 : g = b := e
      subst e3
      have h2 : w2.heap[g]? = _ := HB2.out
      rw [hh] at h2
      injection h2 with h2
      injection h2 with _ h3
      exact absurd h3 (by decide)
  · have t1 : Two w w1 b v.ownBlock := ⟨HB1.out.2.os, HB1.out.2.tape, HB1.out.2.output, HB1.out.2.size, fun k hk h1 _ => HB1.out.2.block k hk (fun e => h1 (by injection e))⟩
    exact (t1.trans (Two.grown H2.out.2.1)).trans (Two.setc w2 b 1 _ _)
  · rcases H2.out.2.2 with e | e
    · exact .inl e
    · exact .inr ⟨_, e, hz1⟩
theorem writeByte_c (w : World) (B b : Nat) (v : Value) (xs : List (BitVec 8)) (c : BitVec 8) (h : BdAt w B b v xs) (hl : xs.length + 1 ≤ 4294967296) (hB : B ≤ w.heap.size) :
    Calls Tryd.prog 52 #[.pointer (some ⟨b, 0, none⟩), .int .u8 (U8 c)] w (WsP w B b v xs [c] .nilIface) := by
  have HCc := Lib.hid (cc_c w h)
  have HH := Lib.hid (And.intro h (And.intro hl hB))
  obtain ⟨z, hz⟩ : ∃ z, z = U8 c := ⟨_, rfl⟩
  rw [← hz]
  have HZ := Lib.hid hz
  clear h hl hB hz
  go_enter Tryd.func52, Tryd.ntmps52
  go_wp2_with fail
  refine Calls.mono HCc.out ?_
  rintro r w1 ⟨rfl, hb1, hg1⟩
  have hz1 := hg1.size
  have c0 := hb1.cell 0
  have c1 := hb1.cell 1
  have HB1 := Lib.hid (And.intro hb1 hg1)
  have HO1 := Lib.hid (HH.out.1.own.kept hg1 (.inr HH.out.1.ne))
  clear hb1 hg1
  have HRz := Lib.hid (show Rd b8 (w1.alloc (.cells #[.int .u8 z] 5)) (w1.heap.size + 1) (some ⟨w1.heap.size, 0, none⟩) [c] from rd1_new (by rw [HZ.out]; rfl))
  have HSz := Lib.hid (show B ≤ (w1.alloc (.cells #[.int .u8 z] 5)).heap.size from Nat.le_trans (Nat.le_trans HH.out.2.2 hz1) (Gw.alloc w1 _).size)
  have HL1 := Lib.hid (show xs.length + [c].length ≤ 4294967296 from HH.out.2.1)
  go_wp2_with (at_builtin; refine wp_app one8 b8_one rfl (.tmp 11) (.tmp 13) rfl B v xs rfl (HO1.out.alloc _) (some ⟨w1.heap.size, 0, none⟩) 1 1 [c] rfl rfl (w1.heap.size + 1) HRz.out HL1.out (by decide) HSz.out ?_; intro v2 w2 ho2 hbl2 hg2 hv2; have H2 := Lib.hid (And.intro ho2 (And.intro hg2 hv2)); have hb2 : Bk w2 b 101 #[.pointer (some ⟨b, 0, none⟩), v] := (hg2.block b (HB1.out.1.alloc _).lt (fun e => HH.out.1.ne e.symm)).trans (HB1.out.1.alloc _); obtain ⟨A2, n2, k2, rfl⟩ : ∃ A n k, v2 = .slice A n k := by { obtain ⟨A, k, e, _⟩ := ho2.form; exact ⟨_, _, _, e⟩ }; have d0 := hb2.cell 0; have d1 := hb2.cell 1; have f1 := hb2.free 1; have HB2 := Lib.hid hb2; clear ho2 hg2 hv2 hb2 hbl2)
  go_ret
  have hbs := HB2.out.set 1 (.slice A2 n2 k2)
  refine ⟨.slice A2 n2 k2, rfl, ⟨HH.out.1.ge, ⟨_, .inr rfl, by simpa using hbs⟩, H2.out.1.kept (grown_set w2 ⟨b, 1, none⟩ _) ?_⟩, ⟨?_, ?_⟩⟩
  · refine .inr (fun e => ?_)
    rcases H2.out.1.2 with ⟨e2, _⟩ | ⟨g, cap, cur, e2, _, hh, _⟩
    · rw [e2] at e; cases e
    · rw [e2] at e
      injection e with e
      have e3 : g = b := e
      subst e3
      have h2 : w2.heap[g]? = _ := HB2.out
      rw [hh] at h2
      injection h2 with h2
      injection h2 with _ h3
      exact absurd h3 (by decide)
  · have t1 : Two w w1 b v.ownBlock := ⟨HB1.out.2.os, HB1.out.2.tape, HB1.out.2.output, HB1.out.2.size, fun k hk h1 _ => HB1.out.2.block k hk (fun e => h1 (by injection e))⟩
    exact ((t1.trans (Two.below (Gw.alloc w1 (.cells #[.int .u8 z] 5)))).trans (Two.grown H2.out.2.1)).trans (Two.setc w2 b 1 _ _)
  · rcases H2.out.2.2 with e | e
    · exact .inl e
    · exact .inr ⟨_, e, Nat.le_trans hz1 (Gw.alloc w1 _).size⟩
end Go.Proofs.YtfodefgihicafaaDoor
/- strconv.FormatUint(0x100 | x, 16): "1" and two digits. Conditions: the table deBruijn64tab holds 4 at its place 15. -/
namespace Go.Proofs.YtfodefgihicafaaDoor
set_option linter.unusedVariables false
set_option linter.unusedSimpArgs false
open Go.RowKit
set_option maxHeartbeats 1000000
set_option maxRecDepth 100000
theorem pow2_16 (w : World) : Calls Tryd.prog 93 #[.int .i64 16] w fun e w' => e = .returned (.bool true) ∧ w' = w := by
  have hb : bits .and .i64 16 15 = 0 := by kernel_rfl
  go_enter Tryd.func93, Tryd.ntmps93
  go_wp2
  go_ret
  exact ⟨by simp [hb], rfl⟩
theorem tz64_16 (w : World) (h : w.cell? ⟨2, 15, none⟩ = some (.int .u8 4)) : Calls Tryd.prog 96 #[.int .u64 16] w fun e w' => e = .returned (.int .i64 4) ∧ w' = w := by
  have e1 : IntKind.u64.wrap (-16) = 18446744073709551600 := by kernel_rfl
  have e2 : bits .and .u64 16 18446744073709551600 = 16 := by kernel_rfl
  have e3 : IntKind.u64.wrap (16 * 285870213051353865) = 4573923408821661840 := by kernel_rfl
  have e4 : (4573923408821661840 : Int) / 288230376151711744 = 15 := by kernel_rfl
  go_enter Tryd.func96, Tryd.ntmps96
  go_wp2
  go_ret
  exact ⟨rfl, rfl⟩
theorem tz_16 (w : World) (h : w.cell? ⟨2, 15, none⟩ = some (.int .u8 4)) : Calls Tryd.prog 94 #[.int .u64 16] w fun e w' => e = .returned (.int .i64 4) ∧ w' = w := by
  have HC := Lib.hid (tz64_16 w h)
  clear h
  go_enter Tryd.func94, Tryd.ntmps94
  go_wp2_with fail
  refine Calls.mono HC.out ?_
  rintro e w1 ⟨rfl, rfl⟩
  go_wp2_with fail
  go_ret
  exact ⟨rfl, rfl⟩
def hexS : ByteArray := ⟨#[48, 49, 50, 51, 52, 53, 54, 55, 56, 57, 97, 98, 99, 100, 101, 102, 103, 104, 105, 106, 107, 108, 109, 110, 111, 112, 113, 114, 115, 116, 117, 118, 119, 120, 121, 122]⟩
/-- A digit by sixteens. -/
def hexU (i : Nat) : BitVec 8 := if i < 10 then BitVec.ofNat 8 (48 + i) else BitVec.ofNat 8 (87 + i)
theorem hexS_at (i : Nat) (h : i < 16) (h2 : i < hexS.size) : hexS[i] = UInt8.ofBitVec (hexU i) := by
  have key : ∀ k : Fin 16, hexS.data[k.1]! = UInt8.ofBitVec (hexU k.1) := by decide +kernel
  have k1 := key ⟨i, h⟩
  have h3 : i < hexS.data.size := h2
  rw [getElem!_pos hexS.data i h3] at k1
  exact k1
theorem three65 (Z : Array Value) (hz : Z.size = 65) (x y z : Value) :
    ((Z.setIfInBounds 64 z |>.setIfInBounds 63 y).setIfInBounds 62 x)[62]? = some x ∧ ((Z.setIfInBounds 64 z |>.setIfInBounds 63 y).setIfInBounds 62 x)[63]? = some y ∧ ((Z.setIfInBounds 64 z |>.setIfInBounds 63 y).setIfInBounds 62 x)[64]? = some z := by
  refine ⟨?_, ?_, ?_⟩ <;> simp [Array.getElem?_setIfInBounds, hz]
/-- Three bytes out of the end of a row of 65. -/
theorem conv65 (w : World) (x y z : UInt8) :
    (convert 30 9 (.slice (some ⟨w.heap.size, 62, none⟩) 3 3)).run Tryd.prog (w.alloc (.cells (((Tryd.zeroCells146.setIfInBounds 64 (.int .u8 z.toNat)).setIfInBounds 63 (.int .u8 y.toNat)).setIfInBounds 62 (.int .u8 x.toNat)) 146)) = .ok (.string ⟨#[x, y, z]⟩) (w.alloc (.cells (((Tryd.zeroCells146.setIfInBounds 64 (.int .u8 z.toNat)).setIfInBounds 63 (.int .u8 y.toNat)).setIfInBounds 62 (.int .u8 x.toNat)) 146)) := by
  have hz : Tryd.zeroCells146.size = 65 := by kernel_rfl
  obtain ⟨Z, hZ⟩ : ∃ Z, Z = Tryd.zeroCells146 := ⟨_, rfl⟩
  rw [← hZ] at hz ⊢
  clear hZ
  have hk := Bk.new w 146 (((Z.setIfInBounds 64 (.int .u8 z.toNat)).setIfInBounds 63 (.int .u8 y.toNat)).setIfInBounds 62 (.int .u8 x.toNat))
  generalize (w.alloc (.cells (((Z.setIfInBounds 64 (.int .u8 z.toNat)).setIfInBounds 63 (.int .u8 y.toNat)).setIfInBounds 62 (.int .u8 x.toNat)) 146)) = W at hk ⊢
  obtain ⟨k0, k1, k2⟩ := three65 Z hz (.int .u8 x.toNat) (.int .u8 y.toNat) (.int .u8 z.toNat)
  have hr : Rd b8 W (w.heap.size + 1) (some ⟨w.heap.size, 62, none⟩) [x.toBitVec, y.toBitVec, z.toBitVec] := by
    intro j hj
    refine ⟨_, rfl, Nat.lt_succ_self _, ?_⟩
    match j, hj with
    | 0, _ => exact (hk.cell 62).trans k0
    | 1, _ => exact (hk.cell 63).trans k1
    | 2, _ => exact (hk.cell 64).trans k2
  exact str_conv _ _ 3 _ W hr
/-- The digits of 0x100 | x by sixteens. -/
theorem bits_16 (w : World) (h : w.cell? ⟨2, 15, none⟩ = some (.int .u8 4)) (N0 N1 a b : Int) (ha : 0 ≤ a ∧ a < 16) (hb : 0 ≤ b ∧ b < 16) (g0 : 16 ≤ N0) (g1 : 16 ≤ N1)
    (e0 : bits .and .u64 N0 15 = b) (e1 : N0 / 16 = N1) (e2 : bits .and .u64 N1 15 = a) (e3 : N1 / 16 = 1) :
    Calls Tryd.prog 86 #[.slice none 0 0, .int .u64 N0, .int .i64 16, .bool false, .bool false] w fun e w' => e = .returned (.tuple #[.slice none 0 0, .string (strB [49#8, hexU a.toNat, hexU b.toNat])]) ∧ Below w.heap.size w w' := by
  have HP := Lib.hid (fun W => pow2_16 W)
  have HT := Lib.hid (And.intro h trivial)
  have hlt : (2 : Nat) < w.heap.size := by
    unfold World.cell? at h
    cases hh : w.heap[2]? with
    | none => rw [hh] at h; cases h
    | some o => exact (Array.getElem?_eq_some_iff.1 hh).1
  clear h
  have hcv := fun x y z => conv65 w x y z
  go_enter Tryd.func86, Tryd.ntmps86
  go_wp2_with fail
  refine Calls.mono (HP.out _) ?_
  rintro e w1 ⟨rfl, rfl⟩
  go_wp2_with fail
  refine Calls.mono (tz_16 _ (cell_later ((Gw.alloc w _)) HT.out.1)) ?_
  rintro e w1 ⟨rfl, rfl⟩
  go_wp2_with fail
  refine wp_loop_rounds 3 ?_
  rw [rounds_succ]
  go_wp2_with fail
  rw [rounds_succ]
  go_wp2_with fail
  rw [rounds_succ]
  go_wp2_with fail
  go_ret2
  have q0 := hexS_at 1 (by decide) (by decide)
  have s36 : hexS.size = 36 := rfl
  have sa : a.toNat < hexS.size := by omega
  have sb : b.toNat < hexS.size := by omega
  have q1 := hexS_at a.toNat (by omega) sa
  have q2 := hexS_at b.toNat (by omega) sb
  refine ⟨?_, Gw.alloc w _⟩
  refine congrArg Ending.returned (congrArg Value.tuple ?_)
  refine congrArg (fun v => #[Value.slice none 0 0, Value.string v]) ?_
  show (⟨#[hexS[1]'(by decide), hexS[a.toNat]'sa, hexS[b.toNat]'sb]⟩ : ByteArray) = _
  rw [q0, q1, q2]
  rfl
theorem ifu_c (w : World) (h : w.cell? ⟨2, 15, none⟩ = some (.int .u8 4)) (N0 N1 a b : Int) (ha : 0 ≤ a ∧ a < 16) (hb : 0 ≤ b ∧ b < 16) (g0 : 16 ≤ N0) (g1 : 16 ≤ N1)
    (e0 : bits .and .u64 N0 15 = b) (e1 : N0 / 16 = N1) (e2 : bits .and .u64 N1 15 = a) (e3 : N1 / 16 = 1) :
    Calls Tryd.prog 75 #[.int .u64 N0, .int .i64 16] w fun e w' => e = .returned (.string (strB [49#8, hexU a.toNat, hexU b.toNat])) ∧ Below w.heap.size w w' := by
  have HC := Lib.hid (bits_16 w h N0 N1 a b ha hb g0 g1 e0 e1 e2 e3)
  clear h e0 e1 e2 e3 g0 g1 ha hb
  go_enter Tryd.func75, Tryd.ntmps75
  go_wp2_with fail
  refine Calls.mono HC.out ?_
  rintro e w1 ⟨rfl, hg⟩
  go_wp2_with fail
  go_ret
  exact ⟨rfl, hg⟩
theorem hex_bits : ∀ x : Fin 256, bits .or .u64 256 (x.1 : Int) = 256 + (x.1 : Int) ∧ bits .and .u64 (256 + (x.1 : Int)) 15 = ((x.1 % 16 : Nat) : Int) ∧ bits .and .u64 (16 + ((x.1 / 16 : Nat) : Int)) 15 = ((x.1 / 16 : Nat) : Int) := by decide +kernel
theorem fu_c (w : World) (h : w.cell? ⟨2, 15, none⟩ = some (.int .u8 4)) (x : BitVec 8) :
    Calls Tryd.prog 53 #[.int .u64 (bits .or .u64 256 (U8 x)), .int .i64 16] w fun e w' => e = .returned (.string (strB [49#8, hexU (x.toNat / 16), hexU (x.toNat % 16)])) ∧ Below w.heap.size w w' := by
  have hx : x.toNat < 256 := x.isLt
  obtain ⟨k0, k1, k2⟩ := hex_bits ⟨x.toNat, hx⟩
  simp only at k0 k1 k2
  have e : bits .or .u64 256 (U8 x) = 256 + (x.toNat : Int) := k0
  rw [e]
  have hc0 := (ifu_c w h (256 + (x.toNat : Int)) (16 + ((x.toNat / 16 : Nat) : Int)) ((x.toNat / 16 : Nat) : Int) ((x.toNat % 16 : Nat) : Int) (by omega) (by omega) (by omega) (by omega) k1 (by omega) k2 (by omega))
  rw [Int.toNat_natCast, Int.toNat_natCast] at hc0
  clear h e k0 k1 k2 hx
  generalize x.toNat / 16 = p at hc0 ⊢
  generalize x.toNat % 16 = q at hc0 ⊢
  have HC := Lib.hid hc0
  clear hc0
  generalize (256 : Int) + (x.toNat : Int) = N0 at HC ⊢
  go_enter Tryd.func53, Tryd.ntmps53
  go_wp2_with fail
  refine Calls.mono HC.out ?_
  rintro e w1 ⟨rfl, hg⟩
  go_wp2_with fail
  go_ret
  exact ⟨rfl, hg⟩
end Go.Proofs.YtfodefgihicafaaDoor
/- strconv.Itoa of a digit. Conditions: below 10. -/
namespace Go.Proofs.YtfodefgihicafaaDoor
set_option linter.unusedVariables false
set_option linter.unusedSimpArgs false
open Go.RowKit
set_option maxHeartbeats 1000000
set_option maxRecDepth 100000
theorem hexS_dig (i : Nat) (hi : i < 10) : hexS.extract i (i + 1) = strB [BitVec.ofNat 8 (48 + i)] := by
  have key : ∀ k : Fin 10, (hexS.extract k.1 (k.1 + 1)).data = (strB [BitVec.ofNat 8 (48 + k.1)]).data := by decide +kernel
  exact congrArg ByteArray.mk (key ⟨i, hi⟩)
theorem small_c (i : Nat) (hi : i < 10) (w : World) : Calls Tryd.prog 83 #[.int .i64 i] w fun e w' => e = .returned (.string (strB [BitVec.ofNat 8 (48 + i)])) ∧ w' = w := by
  have h1 : (i : Int) < 10 := by omega
  go_enter Tryd.func83, Tryd.ntmps83
  go_wp2_with fail
  go_ret
  refine ⟨?_, rfl⟩
  show Ending.returned (.string (hexS.extract i (i + 1))) = _
  rw [hexS_dig i hi]
theorem fi_c (i : Nat) (hi : i < 10) (w : World) : Calls Tryd.prog 82 #[.int .i64 i, .int .i64 10] w fun e w' => e = .returned (.string (strB [BitVec.ofNat 8 (48 + i)])) ∧ w' = w := by
  have h1 : (i : Int) < 100 := by omega
  have h0 : (0 : Int) ≤ i := by omega
  have HC := Lib.hid (small_c i hi w)
  go_enter Tryd.func82, Tryd.ntmps82
  go_wp2_with fail
  refine Calls.mono HC.out ?_
  rintro e w1 ⟨rfl, rfl⟩
  go_wp2_with fail
  go_ret
  exact ⟨rfl, rfl⟩
theorem iitoa_c (i : Nat) (hi : i < 10) (w : World) : Calls Tryd.prog 74 #[.int .i64 i] w fun e w' => e = .returned (.string (strB [BitVec.ofNat 8 (48 + i)])) ∧ w' = w := by
  have HC := Lib.hid (fi_c i hi w)
  go_enter Tryd.func74, Tryd.ntmps74
  go_wp2_with fail
  refine Calls.mono HC.out ?_
  rintro e w1 ⟨rfl, rfl⟩
  go_wp2_with fail
  go_ret
  exact ⟨rfl, rfl⟩
theorem itoa_c (i : Nat) (hi : i < 10) (w : World) : Calls Tryd.prog 51 #[.int .i64 i] w fun e w' => e = .returned (.string (strB [BitVec.ofNat 8 (48 + i)])) ∧ w' = w := by
  have HC := Lib.hid (iitoa_c i hi w)
  go_enter Tryd.func51, Tryd.ntmps51
  go_wp2_with fail
  refine Calls.mono HC.out ?_
  rintro e w1 ⟨rfl, rfl⟩
  go_wp2_with fail
  go_ret
  exact ⟨rfl, rfl⟩
end Go.Proofs.YtfodefgihicafaaDoor
/- The facts of this dump that the library asks for at (*strings.Builder).String. No conditions. -/
namespace Go.Proofs.YtfodefgihicafaaDoor
set_option linter.unusedVariables false
set_option linter.unusedSimpArgs false
open Go.Proofs
open Go.Shelf
open Go.RowKit
def lays169_ren : Go.Shelf.Ren := ⟨fun | 169 => 54 | n => n, fun | 70 => 99 | 9 => 9 | 0 => 0 | 72 => 101 | 37 => 30 | 127 => 127 | 3 => 3 | 5 => 5 | n => n, fun | n => n⟩
theorem lays169 : Go.Proofs.Lays.n169 Tryd.prog lays169_ren := {
  mixed := by kernel_rfl
  f169 := Tryd.func54.trans (congrArg some (by kernel_rfl))
  t0 := Tryd.underlying0
  a0 := Tryd.isAgg0
  z0 := Tryd.sizeOf0
  v0 := Tryd.zeroValue0
  t3 := Tryd.underlying3
  a3 := Tryd.isAgg3
  z3 := Tryd.sizeOf3
  v3 := Tryd.zeroValue3
  t9 := Tryd.underlying9
  a9 := Tryd.isAgg9
  z9 := Tryd.sizeOf9
  v9 := Tryd.zeroValue9
  t37 := Tryd.underlying30
  a37 := Tryd.isAgg30
  z37 := Tryd.sizeOf30
  v37 := Tryd.zeroValue30
  t70 := Tryd.underlying99
  a70 := Tryd.isAgg99
  z70 := Tryd.sizeOf99
  v70 := Tryd.zeroValue99
  t72 := Tryd.underlying101
  a72 := Tryd.isAgg101
  z72 := Tryd.sizeOf101
  v72 := Tryd.zeroValue101
  t127 := Tryd.underlying127
  a127 := Tryd.isAgg127
  z127 := Tryd.sizeOf127
  v127 := Tryd.zeroValue127 }
theorem Builder_Extra_169 : Builder.Extra Tryd.prog lays169_ren := {
  sizeBuilder := by kernel_rfl
  liesBuilder := by kernel_rfl
  t5 := Tryd.underlying5
  a5 := Tryd.isAgg5
  z5 := Tryd.sizeOf5
  v5 := Tryd.zeroValue5
  infoByte := by kernel_rfl
  cellsByte := by kernel_rfl
  sizeByte := by kernel_rfl
  neB5 := by decide }
theorem string_c (B b : Nat) (v : Value) (xs : List (BitVec 8)) (w : World) (h : BdAt w B b v xs) (hB : B ≤ w.heap.size) :
    Calls Tryd.prog 54 #[.pointer (some ⟨b, 0, none⟩)] w fun e w' => e = .returned (.string (strB xs)) ∧ Below B w w' := by
  have hl : Lib.IsBuilder 101 5 B b (Lib.byteCells (strL xs)) w := by
    have := h.of_lib (p := undef)
    rw [show xs.map b8 = Lib.byteCells (strL xs) from by unfold Lib.byteCells strL b8 U8; simp] at this
    exact this
  exact Any.Builder_String_any lays169 Builder_Extra_169 B b (strL xs) w hl hB
end Go.Proofs.YtfodefgihicafaaDoor
/- A region whose operations are loads and reckonings, which float, and a row of others (calls, appends, stores) that wait for each other: the floating ones have known values, the row is straight code. No conditions. -/
namespace Go.Proofs.YtfodefgihicafaaDoor
set_option linter.unusedVariables false
set_option linter.unusedSimpArgs false
open Go.RowKit
section
variable {P : Program} {ops : Array Oper} {Q : Exit → Act → World → Prop} {a0 : Act} {w0 : World}
/-- Operations one behind the other; W holds of each world between. -/
def SpineW (P : Program) (ops : Array Oper) (Q : Exit → Act → World → Prop) (W : World → Prop) : List Nat → Act → World → Prop
  | [], a, w => Q .normal a w
  | i :: is, a, w => ∃ o, ops[i]? = some o ∧ o.guard = none ∧ Oper.wp P o a w (fun a' w' => a'.defers = a.defers ∧ W w' ∧ SpineW P ops Q W is a' w') NoQ
def operandsOf (ops : Array Oper) (i : Nat) : List Tmp := match ops[i]? with
  | none => []
  | some o => o.op.operands.toList.filterMap fun | .tmp t => some t | _ => none
def chainB (ops : Array Oper) : List Nat → Bool
  | x :: y :: l => waitsB ops y x && chainB ops (y :: l)
  | _ => true
def slotsB (ops : Array Oper) (fl : List Nat) (j : Nat) : Bool := match dstOf ops j with
  | none => false
  | some d => slotB ops fl j d
def spineB (ops : Array Oper) (sp fl : List Nat) : Bool :=
  chainB ops sp && ((List.range ops.size).all fun i => sp.contains i || fl.contains i) && (fl.all fun j => !sp.contains j && decide (j < ops.size) && ((ops[j]?).bind (·.guard)).isNone && slotsB ops fl j) && (sp.all fun i => decide (i < ops.size)) && decide (sp.Nodup) &&
  (fl.all fun i => (operandsOf ops i).all fun t => (fl.any fun j => waitsB ops i j && dstOf ops j == some t) || ((fl.all fun j => dstOf ops j != some t) && sp.all fun j => dstOf ops j != some t || waitsB ops j i)) &&
  (sp.all fun i => (operandsOf ops i).all fun t => fl.all fun j => dstOf ops j != some t || waitsB ops i j)
theorem wp_two {o : Oper} {A a : Act} {w : World} {K K2 : Act → World → Prop} (he : execOp A.eval o = execOp a.eval o)
    (h : Oper.wp P o A w (fun a' w' => a'.defers = A.defers ∧ K a' w') NoQ) (hk : ∀ v w', K (A.put o.dst v) w' → K2 (a.put o.dst v) w') : Oper.wp P o a w K2 Q := by
  unfold Oper.wp at *
  rw [← he]
  generalize (execOp A.eval o).run P w = r at *
  cases r with
  | ok n w' =>
    cases n <;> simp only [Oper.upon] at h ⊢
    case value u => exact hk _ _ h.2
    case skip => exact hk _ _ h.2
    case defer d =>
      exfalso
      have := h.1
      cases hd : o.dst <;> simp [Act.put, hd] at this
    case enter f args =>
      refine Calls.mono h fun e w'' he => ?_
      cases e with
      | returned u => exact hk _ _ he.2
      | panicked c => exact he.elim
      | outgrown => obtain ⟨_, _, hf⟩ := he; exact hf.elim
    case row row args => exact Rows.mono h fun u w'' he => hk _ _ he.2
  | halt x w' =>
    cases x <;> simp only [Oper.upon] at h ⊢
    case panic u => exact h.elim
def SpineQ (df : List Deferred) (W : World → Prop) (next : Act → World → Prop) : Exit → Act → World → Prop
  | .normal, a, w => a.defers = df ∧ W w ∧ next a w
  | _, _, _ => False
/-- One of the row, as straight code. -/
theorem spine_list {i : Nat} {is : List Nat} {W : World → Prop} {d : Option Tmp} {op : Op} {type : TypeId} {a : Act} {w : World} (ho : (ops[i]?).map (fun o => (o.op, o.type)) = some (op, type)) (hdo : (ops[i]?).map (·.dst) = some d) (hg : (ops[i]?).bind (·.guard) = none)
    (h : wpList P #[{ dst := d, op, type, pos := "", after := #[], guard := none }] (SpineQ a.defers W (SpineW P ops Q W is)) [{ dst := d, op, type, pos := "", after := #[], guard := none }] a w) : SpineW P ops Q W (i :: is) a w := by
  cases hi : ops[i]? with
  | none => rw [hi] at ho; cases ho
  | some o =>
    rw [hi] at ho hdo hg
    obtain ⟨dst, op', type', pos, after, guard⟩ := o
    simp only [Option.map_some, Option.some.injEq, Prod.mk.injEq] at ho hdo
    obtain ⟨rfl, rfl⟩ := ho
    subst hdo
    simp only [Option.bind_some] at hg
    subst hg
    refine ⟨_, hi, rfl, ?_⟩
    unfold wpList at h
    simp only [Region.wanted, if_true] at h
    have he : execOp a.eval { dst, op := op', type := type', pos, after, guard := none } = execOp a.eval { dst, op := op', type := type', pos := "", after := #[], guard := none } := by
      cases op' <;> rfl
    rcases h with h | ⟨_, h2⟩
    · unfold Oper.wp at h ⊢
      rw [he]
      generalize (execOp a.eval { dst, op := op', type := type', pos := "", after := #[], guard := none }).run P w = r at *
      cases r with
      | ok n w' =>
        cases n <;> simp only [Oper.upon, wpList] at h ⊢
        case value u => exact h
        case skip => exact h
        case defer u => exact h
        case enter f args =>
          refine Calls.mono h fun e w'' he => ?_
          cases e with
          | returned u => exact he
          | panicked c => exact he.elim
          | outgrown => obtain ⟨_, _, hf⟩ := he; exact hf.elim
        case row row args => exact h
      | halt x w' =>
        cases x <;> simp only [Oper.upon] at h ⊢
        case panic u => exact h.elim
    · obtain ⟨_, _, h3⟩ := h2
      exact h3.elim
theorem regB_plain {size : Nat} (h : regB ops size = true) {i : Nat} {o : Oper} (ho : ops[i]? = some o) : match o.op with | .defer _ => False | .select .. => False | _ => True := by
  unfold regB at h
  rw [List.all_eq_true] at h
  have h1 := h i (List.mem_range.2 (Array.getElem?_eq_some_iff.1 ho).1)
  rw [ho] at h1
  simp only [Bool.and_eq_true] at h1
  have h2 := h1.2
  revert h2
  cases o.op <;> simp
theorem chain_at {l : List Nat} : ∀ {d : List Nat} {x y : Nat}, chainB ops (d ++ x :: y :: l) = true → waitsB ops y x = true := by
  intro d
  induction d with
  | nil => intro x y h; unfold chainB at h; rw [List.nil_append] at h; simp only [Bool.and_eq_true] at h; exact h.1
  | cons z d ih =>
    intro x y h
    apply ih (x := x) (y := y)
    cases d with
    | nil => simp only [List.cons_append, List.nil_append, chainB, Bool.and_eq_true] at h ⊢; exact h.2
    | cons u d => simp only [List.cons_append, chainB, Bool.and_eq_true] at h ⊢; exact h.2
theorem region_spine {id : Nat} (sp fl : List Nat) (c : Nat → Value) (W : World → Prop) (hm : P.follows .mixedOrders = true) (hreg : regB ops a0.tmps.size = true) (hsp : spineB ops sp fl = true) (hW : W w0.drew)
    (hF : ∀ i ∈ fl, ∀ w, W w → ∃ o, ops[i]? = some o ∧ (execOp (putL ops c fl a0).eval o).run P w = .ok (.value (c i)) w)
    (fin : SpineW P ops Q W sp (putL ops c fl a0) w0.drew) : (Code.region id ops true).wp P Q a0 w0 := by
  unfold spineB at hsp
  simp only [Bool.and_eq_true, List.all_eq_true, List.mem_range, decide_eq_true_eq, Bool.or_eq_true, List.contains_iff_mem, Bool.not_eq_true', Bool.not_eq_eq_eq_not, Bool.not_true] at hsp
  obtain ⟨⟨⟨⟨⟨⟨hch, hcov⟩, hfl⟩, hspl⟩, hnd⟩, hfo⟩, hso⟩ := hsp
  have hflsp : ∀ j ∈ fl, j ∉ sp := fun j hj h => by
    have := (hfl j hj).1.1.1
    rw [List.contains_eq_mem] at this
    simp [h] at this
  have getT : ∀ (l : Array Bool) (k : Nat) (b c : Bool), k < l.size → l.getD k b = l.getD k c := by
    intro l k b c hk
    rw [Array.getD_eq_getD_getElem?, Array.getD_eq_getD_getElem?, Array.getElem?_eq_getElem hk]; rfl
  have hdst : ∀ i, i < ops.size → ∃ d, dstOf ops i = some d ∧ d < a0.tmps.size ∧ ∀ j, j < ops.size → j ≠ i → dstOf ops j ≠ some d := by
    intro i hi
    obtain ⟨o2, d, ho2, hd2, hdl, hdd, _⟩ := regB_at hreg hi
    exact ⟨d, by unfold dstOf; rw [ho2]; exact hd2, hdl, hdd⟩
  have hA0 : ∀ j ∈ fl, valAt ops (putL ops c fl a0) j = c j := by
    intro j hj
    obtain ⟨d, hd, hdl, _⟩ := hdst j (hfl j hj).1.1.2
    have hs := (hfl j hj).2
    unfold slotsB at hs
    rw [hd] at hs
    unfold valAt
    rw [hd]
    exact slotJ fl hdl hs
  have hout : ∀ t, (∀ j ∈ fl, dstOf ops j ≠ some t) → (putL ops c fl a0).tmps.getD t undef = a0.tmps.getD t undef := by
    intro t ht
    exact slotO fl (List.all_eq_true.2 fun k hk => by simpa using ht k hk)
  have main : ∀ (fuel : Nat) (listed : Array Bool) (a : Act) (w : World) (dn rest : List Nat) (A : Act), listed.size = ops.size →
      ((List.range ops.size).filter fun j => !listed.getD j true).length ≤ fuel →
      W w → SpineW P ops Q W rest A w → sp = dn ++ rest → (∀ i ∈ dn, listed.getD i true = true) → (∀ i ∈ rest, listed.getD i true = false) → a.defers = A.defers → a.tmps.size = A.tmps.size → A.tmps.size = a0.tmps.size →
      (∀ j ∈ fl, valAt ops A j = c j) → (∀ t, (∀ j ∈ dn, dstOf ops j ≠ some t) → (∀ j ∈ fl, dstOf ops j ≠ some t) → A.tmps.getD t undef = a0.tmps.getD t undef) → (∀ j ∈ dn, ∀ k, waitsB ops j k = true → listed.getD k true = true) →
      (∀ t, a.tmps.getD t undef = A.tmps.getD t undef ∨ ∃ j ∈ fl, listed.getD j true = false ∧ dstOf ops j = some t) →
      wpAny P .any ops Q fuel listed a w := by
    intro fuel
    have allUp : ∀ (listed : Array Bool), listed.size = ops.size → Region.ready .any ops listed = [] → ∀ j, j < ops.size → listed.getD j true = true := by
      intro listed hsz hr j
      induction j using Nat.strongRecOn with
      | ind j ih =>
        intro hj
        cases hl : listed.getD j true with
        | true => rfl
        | false =>
          exfalso
          obtain ⟨o, d, ho, _, _, _, he⟩ := regB_at hreg hj
          have : j ∈ Region.ready .any ops listed := mem_ready.2 ⟨hl, o, ho, fun e hem hb => by
            have hlt := he e hem hb
            have := ih e.on hlt (by omega)
            rw [Array.getD_eq_getD_getElem?] at this ⊢
            rw [Array.getElem?_eq_getElem (by omega)] at this ⊢
            exact this⟩
          rw [hr] at this
          cases this
    have done : ∀ (listed : Array Bool) (a : Act) (w : World) (dn rest : List Nat) (A : Act), (∀ j, j < ops.size → listed.getD j true = true) → SpineW P ops Q W rest A w → sp = dn ++ rest → (∀ i ∈ rest, listed.getD i true = false) →
        a.defers = A.defers → a.tmps.size = A.tmps.size → (∀ t, a.tmps.getD t undef = A.tmps.getD t undef ∨ ∃ j ∈ fl, listed.getD j true = false ∧ dstOf ops j = some t) → Q .normal a w := by
      intro listed a w dn rest A hall hS hdn hrest hd hs hrel
      cases rest with
      | cons i is =>
        have h1 := hrest i (.head _)
        rw [hall i (hspl i (by rw [hdn]; simp))] at h1
        cases h1
      | nil =>
        have h1 := putL_whole (ops := ops) A [] a hs hd (fun t => by
          rcases hrel t with h | ⟨j, hj, h1, _⟩
          · exact .inl h
          · rw [hall j (hfl j hj).1.1.2] at h1; cases h1)
        unfold putL at h1
        rw [h1]
        exact hS
    induction fuel with
    | zero =>
      intro listed a w dn rest A hsz hcnt hw hS hdn hdl hrest hd hs hs0 hv ho hC hrel
      have hall : ∀ j, j < ops.size → listed.getD j true = true := by
        intro j hj
        cases hl : listed.getD j true with
        | true => rfl
        | false =>
          have : j ∈ (List.range ops.size).filter fun j => !listed.getD j true := List.mem_filter.2 ⟨List.mem_range.2 hj, by simp only [hl]; rfl⟩
          rw [List.eq_nil_of_length_eq_zero (Nat.le_zero.1 hcnt)] at this
          cases this
      refine ⟨?_, done listed a w dn rest A hall hS hdn hrest hd hs hrel⟩
      apply List.eq_nil_iff_forall_not_mem.2
      intro j hj
      obtain ⟨h1, o, ho, _⟩ := mem_ready.1 hj
      have hlt : j < ops.size := (Array.getElem?_eq_some_iff.1 ho).1
      rw [hall j hlt] at h1
      cases h1
    | succ fuel ih =>
      intro listed a w dn rest A hsz hcnt hw hS hdn hdl hrest hd hs hs0 hv ho hC hrel
      refine ⟨fun hr => done listed a w dn rest A (allUp listed hsz hr) hS hdn hrest hd hs hrel, fun i hi => ?_⟩
      obtain ⟨hui, o, hoi, hall⟩ := mem_ready.1 hi
      have hlt : i < ops.size := (Array.getElem?_eq_some_iff.1 hoi).1
      have hlz : i < listed.size := by omega
      have hwt : ∀ j, waitsB ops i j = true → listed.getD j true = true := by
        intro j hj
        obtain ⟨o', ho', e, he, hb, rfl⟩ := waits_some hj
        rw [hoi] at ho'
        injection ho' with ho'
        subst ho'
        have h1 := hall e he hb
        rcases Nat.lt_or_ge e.on listed.size with hl | hl
        · rw [getT _ _ true false hl]
          exact h1
        · rw [Array.getD_eq_getD_getElem?, Array.getElem?_eq_none hl] at h1; cases h1
      have hset : ∀ j b, (listed.setIfInBounds i true).getD j b = if j = i then true else listed.getD j b := by
        intro j b
        rw [Array.getD_eq_getD_getElem?, Array.getD_eq_getD_getElem?, Array.getElem?_setIfInBounds]
        by_cases e : i = j
        · subst e; simp [hlz]
        · rw [if_neg e, if_neg (fun h => e h.symm)]
      have hcnt' : ((List.range ops.size).filter fun j => !(listed.setIfInBounds i true).getD j true).length ≤ fuel := by
        have := filter_less (p := fun j => !listed.getD j true) (q := fun j => !(listed.setIfInBounds i true).getD j true) (i := i) (l := List.range ops.size) (fun x hx => by
          rw [hset] at hx
          by_cases e : x = i
          · rw [if_pos e] at hx; cases hx
          · rw [if_neg e] at hx; exact hx) (List.mem_range.2 hlt) (by rw [hui]; rfl) (by rw [hset, if_pos rfl]; rfl)
        omega
      obtain ⟨d, hdo, hdlt, hdd⟩ := hdst i hlt
      have hops : operandsOf ops i = o.op.operands.toList.filterMap fun | .tmp t => some t | _ => none := by unfold operandsOf; rw [hoi]
      have hndf : match o.op with | .defer _ => False | .select .. => False | _ => True := regB_plain hreg hoi
      have hdo' : o.dst = some d := by unfold dstOf at hdo; rw [hoi] at hdo; exact hdo
      have hcong : ∀ B : Act, (∀ t ∈ operandsOf ops i, B.tmps.getD t undef = a.tmps.getD t undef) → execOp B.eval o = execOp a.eval o := by
        intro B hB
        refine execOp_congr o (fun cs b e => by rw [e] at hndf; exact hndf) fun x hx => ?_
        cases x with
        | tmp t => exact hB t (by rw [hops]; exact List.mem_filterMap.2 ⟨.tmp t, by simpa using hx, rfl⟩)
        | _ => rfl
      have hval : ∀ (B : Act) (v : Value), B.tmps.size = a0.tmps.size → valAt ops (B.put o.dst v) i = v := by
        intro B v hB
        unfold valAt
        rw [hdo, hdo']
        exact put_same _ _ _ (by rw [hB]; exact hdlt)
      by_cases hf1 : i ∈ fl
      · -- one that floats
        have hg := (hfl i hf1).1.2
        rw [hoi, Option.bind_some, Option.isNone_iff_eq_none] at hg
        obtain ⟨o3, ho3, hrun⟩ := hF i hf1 w hw
        rw [hoi] at ho3
        injection ho3 with ho3
        subst ho3
        have hA0a : ∀ t ∈ operandsOf ops i, (putL ops c fl a0).tmps.getD t undef = a.tmps.getD t undef := by
          intro t ht
          rcases hfo i hf1 t ht with h | h
          · rw [List.any_eq_true] at h
            obtain ⟨j, hj, h⟩ := h
            rw [Bool.and_eq_true, beq_iff_eq] at h
            have h1 := hA0 j hj
            have h2 := hv j hj
            unfold valAt at h1 h2
            rw [h.2] at h1 h2
            rcases hrel t with h3 | ⟨k, hk, h3, h4⟩
            · rw [h3]; exact h1.trans h2.symm
            · exfalso
              obtain ⟨dj, hdj, _, hdd2⟩ := hdst j (hfl j hj).1.1.2
              rw [h.2] at hdj
              injection hdj with hdj
              subst hdj
              have hkj : k = j := by
                apply Classical.byContradiction
                intro hne
                exact hdd2 k (hfl k hk).1.1.2 hne h4
              rw [hkj, hwt j h.1] at h3
              cases h3
          · have h' : ∀ j ∈ fl, dstOf ops j ≠ some t := fun j hj => by simpa using h.1 j hj
            rw [hout t h', ← ho t (fun j hj e => by
              rcases h.2 j (by rw [hdn]; exact List.mem_append_left _ hj) with h5 | h5
              · exact absurd e (by simpa using h5)
              · have := hC j hj i h5
                rw [hui] at this
                cases this) h']
            rcases hrel t with h3 | ⟨k, hk, _, h4⟩
            · exact h3.symm
            · exact absurd h4 (h' k hk)
        have hrun' : (execOp a.eval o).run P w = .ok (.value (c i)) w := by rw [← hcong _ hA0a]; exact hrun
        unfold wpOp
        rw [hoi]
        simp only [Region.wanted, hg, if_true]
        left
        unfold Oper.wp
        rw [hrun']
        simp only [Oper.upon]
        refine ih (listed.setIfInBounds i true) (a.put o.dst (c i)) w dn rest A (by simp [hsz]) hcnt' hw hS hdn (fun x hx => by rw [hset]; split; rfl; exact hdl x hx) ?_ ?_ (by rw [put_size, hs]) hs0 hv ho (fun j hj k hk => by rw [hset]; split; rfl; exact hC j hj k hk) ?_
        · intro x hx
          rw [hset, if_neg (fun e => hflsp i hf1 (by rw [hdn, ← e]; exact List.mem_append_right _ hx))]
          exact hrest x hx
        · rw [← hd]; cases o.dst <;> rfl
        · intro t
          by_cases e : dstOf ops i = some t
          · left
            have h2 := hv i hf1
            unfold valAt at h2
            rw [e] at h2
            rw [hdo] at e
            injection e with e
            subst e
            rw [hdo', put_same _ _ _ (by rw [hs, hs0]; exact hdlt)]
            exact h2.symm
          · rw [put_other _ _ _ _ (by rw [hdo', ← hdo]; exact e)]
            rcases hrel t with h3 | ⟨k, hk, h3, h4⟩
            · exact .inl h3
            · refine .inr ⟨k, hk, ?_, h4⟩
              rw [hset, if_neg (fun e2 => e (by rw [← e2]; exact h4))]
              exact h3
      · -- one of the row
        have hs1 : i ∈ sp := by
          rcases hcov i hlt with h | h
          · exact h
          · exact absurd h hf1
        have hhead : ∃ is, rest = i :: is := by
          have hmem : i ∈ dn ++ rest := by rw [← hdn]; exact hs1
          rcases List.mem_append.1 hmem with h | h
          · rw [hdl i h] at hui; cases hui
          · cases rest with
            | nil => cases h
            | cons x is =>
              by_cases e : i = x
              · exact ⟨is, by rw [e]⟩
              · exfalso
                have hmi : i ∈ is := by
                  rcases List.mem_cons.1 h with h | h
                  · exact absurd h e
                  · exact h
                obtain ⟨u, t, hut⟩ := List.append_of_mem hmi
                obtain ⟨pre, y, hy⟩ : ∃ pre y, x :: u = pre ++ [y] := ⟨(x :: u).dropLast, (x :: u).getLast (by simp), (List.dropLast_concat_getLast (by simp)).symm⟩
                have hsp2 : sp = (dn ++ pre) ++ y :: i :: t := by
                  rw [hdn, hut, ← List.cons_append, hy]
                  simp
                have hwy : waitsB ops i y = true := chain_at (d := dn ++ pre) (l := t) (by rw [← hsp2]; exact hch)
                have hyr : y ∈ x :: is := by
                  rw [hut, ← List.cons_append, hy]
                  simp
                have := hrest y hyr
                rw [hwt y hwy] at this
                cases this
        obtain ⟨is, rfl⟩ := hhead
        obtain ⟨o3, ho3, hg, hwp⟩ := hS
        rw [hoi] at ho3
        injection ho3 with ho3
        subst ho3
        have hAa : ∀ t ∈ operandsOf ops i, A.tmps.getD t undef = a.tmps.getD t undef := by
          intro t ht
          rcases hrel t with h3 | ⟨k, hk, h3, h4⟩
          · exact h3.symm
          · exfalso
            rcases hso i hs1 t ht k hk with h | h
            · exact absurd h4 (by simpa using h)
            · rw [hwt k h] at h3; cases h3
        unfold wpOp
        rw [hoi]
        simp only [Region.wanted, hg, if_true]
        left
        refine wp_two (hcong A hAa) hwp ?_
        rintro v w' ⟨hw', hS'⟩
        refine ih (listed.setIfInBounds i true) (a.put o.dst v) w' (dn ++ [i]) is (A.put o.dst v) (by simp [hsz]) hcnt' hw' hS' (by rw [hdn]; simp) (fun x hx => by
          rw [hset]
          split
          · rfl
          · rename_i hne
            rcases List.mem_append.1 hx with h | h
            · exact hdl x h
            · exact absurd (by simpa using h) hne) ?_ ?_ (by rw [put_size, put_size, hs]) (by rw [put_size, hs0]) ?_ ?_ ?_ ?_
        · intro x hx
          have hne : x ≠ i := by
            intro e
            subst e
            rw [hdn] at hnd
            have := (List.nodup_append.1 hnd).2.1
            exact (List.nodup_cons.1 this).1 hx
          rw [hset, if_neg hne]
          exact hrest x (.tail _ hx)
        · cases o.dst <;> exact hd
        · intro j hj
          rw [← hv j hj]
          unfold valAt
          cases hjd : dstOf ops j with
          | none => rfl
          | some dj =>
            simp only
            refine put_other _ _ _ _ ?_
            rw [hdo']
            intro e
            have hji : j ≠ i := fun e2 => hf1 (by rw [← e2]; exact hj)
            exact hdd j (hfl j hj).1.1.2 hji (by rw [hjd]; exact e.symm)
        · intro t ht ht2
          rw [put_other _ _ _ _ (by rw [hdo', ← hdo]; exact ht i (by simp))]
          exact ho t (fun j hj => ht j (List.mem_append_left _ hj)) ht2
        · intro j hj k hk
          rw [hset]
          split
          · rfl
          · rcases List.mem_append.1 hj with h | h
            · exact hC j h k hk
            · have : j = i := by simpa using h
              subst this
              exact hwt k hk
        · intro t
          by_cases e : o.dst = some t
          · left
            rw [e]
            rw [hdo'] at e
            injection e with e
            subst e
            rw [put_same _ _ _ (by rw [hs, hs0]; exact hdlt), put_same _ _ _ (by rw [hs0]; exact hdlt)]
          · rw [put_other _ _ _ _ e, put_other _ _ _ _ e]
            rcases hrel t with h3 | ⟨k, hk, h3, h4⟩
            · exact .inl h3
            · refine .inr ⟨k, hk, ?_, h4⟩
              rw [hset, if_neg (fun e2 => hf1 (by rw [← e2]; exact hk))]
              exact h3
  refine wp_region_any hm ?_
  refine main ops.size (Array.replicate ops.size false) a0 w0.drew [] sp (putL ops c fl a0) (by simp) ?_ hW fin rfl (fun x hx => by cases hx) ?_ (putL_defers c fl a0).symm (putL_size c fl a0).symm (putL_size c fl a0) hA0 (fun t _ h => hout t h) (fun j hj => by cases hj) ?_
  · exact Nat.le_trans (List.length_filter_le _ _) (by simp)
  · intro i hi
    rw [Array.getD_eq_getD_getElem?, Array.getElem?_eq_getElem (by simpa using hspl i hi)]
    simp
  · intro t
    by_cases e : ∃ j ∈ fl, dstOf ops j = some t
    · obtain ⟨j, hj, hjd⟩ := e
      refine .inr ⟨j, hj, ?_, hjd⟩
      rw [Array.getD_eq_getD_getElem?, Array.getElem?_eq_getElem (by simpa using (hfl j hj).1.1.2)]
      simp
    · left
      exact (slotO fl (List.all_eq_true.2 fun k hk => by
        have : dstOf ops k ≠ some t := fun h => e ⟨k, hk, h⟩
        simpa using this)).symm
def putA : List (Nat × Tmp × Value) → Act → Act
  | [], a => a
  | x :: l, a => putA l (a.put (some x.2.1) x.2.2)
def valOf (fl : List (Nat × Tmp × Value)) (i : Nat) : Value := ((fl.find? fun y => y.1 == i).map (·.2.2)).getD undef
theorem valOf_mem : ∀ (fl : List (Nat × Tmp × Value)), (fl.map (·.1)).Nodup → ∀ x ∈ fl, valOf fl x.1 = x.2.2
  | [], _, x, h => by cases h
  | y :: l, hn, x, h => by
    rw [List.map_cons, List.nodup_cons] at hn
    unfold valOf
    rw [List.find?_cons]
    by_cases e : y.1 = x.1
    · have hx : x = y := by
        rcases List.mem_cons.1 h with h | h
        · exact h
        · exact absurd (by rw [e]; exact List.mem_map_of_mem h) hn.1
      subst hx
      simp
    · have e2 : (y.1 == x.1) = false := by simpa using e
      rw [e2]
      simp only
      rcases List.mem_cons.1 h with h | h
      · exact absurd (by rw [h]) e
      · exact valOf_mem l hn.2 x h
theorem putL_putA (c : Nat → Value) : ∀ (fl : List (Nat × Tmp × Value)) (a : Act), (∀ x ∈ fl, c x.1 = x.2.2 ∧ dstOf ops x.1 = some x.2.1) → putL ops c (fl.map (·.1)) a = putA fl a
  | [], a, _ => rfl
  | x :: l, a, h => by
    rw [List.map_cons]
    unfold putL putA
    rw [(h x (.head _)).1, (h x (.head _)).2]
    exact putL_putA c l _ fun y hy => h y (.tail _ hy)
/-- region_spine, by a list of places, slots and values. -/
theorem region_by_spine {id : Nat} (sp : List Nat) (fl : List (Nat × Tmp × Value)) (W : World → Prop) (hm : P.follows .mixedOrders = true) (hreg : regB ops a0.tmps.size = true) (hsp : spineB ops sp (fl.map (·.1)) = true)
    (hd : (fl.map fun x => dstOf ops x.1) = fl.map fun x => some x.2.1) (hn : decide ((fl.map (·.1)).Nodup) = true) (hW : W w0.drew)
    (hF : ∀ x ∈ fl, ∀ w ρ, W w → (∀ t, ρ (.tmp t) = (putA fl a0).tmps.getD t undef) → (∀ c, ρ (.const c) = c) → ∃ o, ops[x.1]? = some o ∧ (execOp ρ o).run P w = .ok (.value x.2.2) w)
    (fin : SpineW P ops Q W sp (putA fl a0) w0.drew) : (Code.region id ops true).wp P Q a0 w0 := by
  have hall : ∀ x ∈ fl, valOf fl x.1 = x.2.2 ∧ dstOf ops x.1 = some x.2.1 := fun x hx => ⟨valOf_mem fl (of_decide_eq_true hn) x hx, by
    obtain ⟨k, hk, rfl⟩ := List.getElem_of_mem hx
    have := congrArg (fun l => l[k]?) hd
    simpa [hk] using this⟩
  have he := putL_putA (ops := ops) (valOf fl) fl a0 hall
  refine region_spine sp (fl.map (·.1)) (valOf fl) W hm hreg hsp hW ?_ (by rw [he]; exact fin)
  intro i hi w hw
  obtain ⟨x, hx, rfl⟩ := List.mem_map.1 hi
  rw [(hall x hx).1, he]
  exact hF x hx w _ hw (fun t => rfl) (fun c => rfl)
end
end Go.Proofs.YtfodefgihicafaaDoor
/- A region whose last but one operation waits for all others, and whose last one waits for that: by facts for the others, and then those two. No conditions. -/
namespace Go.Proofs.YtfodefgihicafaaDoor
set_option linter.unusedVariables false
set_option linter.unusedSimpArgs false
open Go.RowKit
section
variable {P : Program} {ops : Array Oper} {Q : Exit → Act → World → Prop} {G : World → World → Prop} {F : Nat → Value → World → Prop} {a0 : Act} {w0 : World}
def regT2B (ops : Array Oper) (m size : Nat) : Bool :=
  ops.size == m + 2 && ((List.range m).all fun j => waitsB ops m j || (List.range m).any fun k => decide (j < k) && waitsB ops k j) && ((List.range (m + 2)).all fun i => eldB ops i) && ((List.range m).all fun i => ownB ops m size i) && waitsB ops (m + 1) m
theorem region_tail2 {id m : Nat} (hm : P.follows .mixedOrders = true) (hrefl : G w0 w0.drew) (htrans : ∀ a b c, G a b → G b c → G a c) (hmono : ∀ j, j < m → ∀ v a b, F j v a → G a b → F j v b)
    (hreg : regT2B ops m a0.tmps.size = true) (howes : ∀ i, i < m → Owes P ops Q G F a0 w0 i)
    (fin : ∀ (vals : Nat → Value) (w : World), G w0 w → (∀ j, j < m → F j (vals j) w) → wpOp P ops Q m (fun a w => wpOp P ops Q (m + 1) (fun a w => Q .normal a w) a w) (putL ops vals (List.range m) a0) w) :
    (Code.region id ops true).wp P Q a0 w0 := by
  unfold regT2B at hreg
  simp only [Bool.and_eq_true, beq_iff_eq, List.all_eq_true, List.mem_range] at hreg
  obtain ⟨⟨⟨⟨hsize, hwaits⟩, held⟩, hown⟩, hlast⟩ := hreg
  have getT : ∀ (l : Array Bool) (k : Nat) (b c : Bool), k < l.size → l.getD k b = l.getD k c := by
    intro l k b c hk
    rw [Array.getD_eq_getD_getElem?, Array.getD_eq_getD_getElem?, Array.getElem?_eq_getElem hk]; rfl
  have main : ∀ (fuel : Nat) (listed : Array Bool) (a : Act) (w : World), listed.size = ops.size → listed.getD m true = false → listed.getD (m + 1) true = false →
      ((List.range ops.size).filter fun j => !listed.getD j true).length ≤ fuel →
      G w0 w → a.defers = a0.defers → a.tmps.size = a0.tmps.size →
      (∀ j, j < m → listed.getD j true = true → F j (valAt ops a j) w) →
      (∀ t, (∀ j, j < m → listed.getD j true = true → dstOf ops j ≠ some t) → a.tmps.getD t undef = a0.tmps.getD t undef) →
      (∀ j, j < m → listed.getD j true = true → ∀ k, waitsB ops j k = true → listed.getD k false = true) →
      wpAny P .any ops Q fuel listed a w := by
    intro fuel
    induction fuel with
    | zero =>
      intro listed a w hsz hun hun2 hcnt
      exfalso
      have : m ∈ (List.range ops.size).filter fun j => !listed.getD j true := List.mem_filter.2 ⟨List.mem_range.2 (by omega), by simp only [hun]; rfl⟩
      rw [List.eq_nil_of_length_eq_zero (Nat.le_zero.1 hcnt)] at this
      cases this
    | succ fuel ih =>
      intro listed a w hsz hun hun2 hcnt hG hd hs hF hR hC
      refine ⟨fun hr => ?_, fun i hi => ?_⟩
      · exfalso
        have up : ∀ j, j < m + 2 → listed.getD j true = true := by
          intro j
          induction j using Nat.strongRecOn with
          | ind j ihj =>
            intro hj
            cases hl : listed.getD j true with
            | true => rfl
            | false =>
              exfalso
              obtain ⟨o, ho, he⟩ := eldB_out (held j hj)
              have : j ∈ Region.ready .any ops listed := mem_ready.2 ⟨hl, o, ho, fun e hem hb => by
                have hlt := he e hem hb
                rw [getT _ _ false true (by omega)]
                exact ihj e.on hlt (by omega)⟩
              rw [hr] at this
              cases this
        rw [up m (by omega)] at hun
        cases hun
      · obtain ⟨hui, o, ho, hall⟩ := mem_ready.1 hi
        have hlt : i < ops.size := (Array.getElem?_eq_some_iff.1 ho).1
        have hlz : i < listed.size := by omega
        have hw : ∀ j, waitsB ops i j = true → j < ops.size ∧ listed.getD j true = true := by
          intro j hj
          obtain ⟨o', ho', e, he, hb, rfl⟩ := waits_some hj
          rw [ho] at ho'
          injection ho' with ho'
          subst ho'
          have h1 := hall e he hb
          rcases Nat.lt_or_ge e.on listed.size with hl | hl
          · refine ⟨by omega, ?_⟩
            rw [getT _ _ true false hl]
            exact h1
          · rw [Array.getD_eq_getD_getElem?, Array.getElem?_eq_none hl] at h1; cases h1
        have hset : ∀ j b, (listed.setIfInBounds i true).getD j b = if j = i then true else listed.getD j b := by
          intro j b
          rw [Array.getD_eq_getD_getElem?, Array.getD_eq_getD_getElem?, Array.getElem?_setIfInBounds]
          by_cases e : i = j
          · subst e; simp [hlz]
          · rw [if_neg e, if_neg (fun h => e h.symm)]
        by_cases him : i = m
        · subst him
          have hall2 : ∀ n j, j < i → i - j ≤ n → listed.getD j true = true := by
            intro n
            induction n with
            | zero => intro j hj hn; omega
            | succ n ihn =>
              intro j hj hn
              have h1 := hwaits j hj
              rw [Bool.or_eq_true] at h1
              rcases h1 with h1 | h1
              · exact (hw j h1).2
              · rw [List.any_eq_true] at h1
                obtain ⟨k, hk, hkj⟩ := h1
                rw [Bool.and_eq_true, decide_eq_true_eq] at hkj
                have hki := List.mem_range.1 hk
                rw [getT _ _ true false (by omega)]
                exact hC k hki (ihn k hki (by omega)) j hkj.2
          have hall' : ∀ j, j < i → listed.getD j true = true := fun j hj => hall2 (i - j) j hj (Nat.le_refl _)
          have h1 := fin (valAt ops a) w hG (fun j hj => hF j hj (hall' j hj))
          rw [putL_whole a (List.range i) a0 hs.symm hd.symm] at h1
          · refine wpOp_mono (fun a' w' hq => ?_) h1
            have hset2 : ∀ j, j < ops.size → j ≠ i + 1 → (listed.setIfInBounds i true).getD j true = true := fun j hj hne => by
              rw [hset]
              by_cases e : j = i
              · rw [if_pos e]
              · rw [if_neg e]; exact hall' j (by omega)
            have hun3 : (listed.setIfInBounds i true).getD (i + 1) true = false := by rw [hset, if_neg (by omega)]; exact hun2
            obtain ⟨f1, rfl⟩ : ∃ f, fuel = f + 1 := by
              have h2 : ((List.range ops.size).filter fun j => !listed.getD j true).length ≤ fuel + 1 := hcnt
              have h4 := List.Nodup.length_le_of_subset (l₁ := [i, i + 1]) (l₂ := (List.range ops.size).filter fun j => !listed.getD j true) (by simp) (fun x hx => by
                simp only [List.mem_cons, List.not_mem_nil, or_false] at hx
                rcases hx with rfl | rfl
                · exact List.mem_filter.2 ⟨List.mem_range.2 (by omega), by simp only [hun]; rfl⟩
                · exact List.mem_filter.2 ⟨List.mem_range.2 (by omega), by simp only [hun2]; rfl⟩)
              simp only [List.length_cons, List.length_nil] at h4
              exact ⟨fuel - 1, by omega⟩
            obtain ⟨o2, ho2, he2⟩ := eldB_out (held (i + 1) (by omega))
            have hrd : i + 1 ∈ Region.ready .any ops (listed.setIfInBounds i true) := mem_ready.2 ⟨hun3, o2, ho2, fun e hem hb => by
              have hlt2 := he2 e hem hb
              rw [getT _ _ false true (by simp only [Array.size_setIfInBounds]; omega)]
              exact hset2 e.on (by omega) (by omega)⟩
            refine ⟨fun hr => ?_, fun k hk => ?_⟩
            · exfalso
              rw [hr] at hrd
              cases hrd
            · obtain ⟨h2, o3, ho3, _⟩ := mem_ready.1 hk
              have hkl : k < ops.size := (Array.getElem?_eq_some_iff.1 ho3).1
              have hki : k = i + 1 := by
                by_cases e : k = i + 1
                · exact e
                · rw [hset2 k hkl e] at h2; cases h2
              subst hki
              refine wpOp_mono (fun a2 w2 hq2 => ?_) hq
              refine wpAny_done ?_ hq2 f1
              apply List.eq_nil_iff_forall_not_mem.2
              intro j hj
              obtain ⟨h5, o5, ho5, _⟩ := mem_ready.1 hj
              have hj2 : j < ops.size := (Array.getElem?_eq_some_iff.1 ho5).1
              rw [Array.getD_eq_getD_getElem?, Array.getElem?_setIfInBounds] at h5
              by_cases e : i + 1 = j
              · subst e
                rw [if_pos rfl] at h5
                simp [hsz, hj2] at h5
              · rw [if_neg e, ← Array.getD_eq_getD_getElem?, hset2 j hj2 (fun h => e h.symm)] at h5; cases h5
          · intro t
            by_cases e : ∃ j, j < i ∧ dstOf ops j = some t
            · obtain ⟨j, hj, hjd⟩ := e
              exact .inr ⟨j, List.mem_range.2 hj, hjd⟩
            · left
              exact (hR t fun j hj _ he => e ⟨j, hj, he⟩).symm
        · have him2 : i ≠ m + 1 := fun e => by
            subst e
            have h9 := (hw m hlast).2
            rw [hun] at h9; cases h9
          have hi' : i < m := by omega
          obtain ⟨d, hdo, hdl, hdd⟩ := ownB_out (hown i hi')
          have hwm : ∀ j, waitsB ops i j = true → j < m := by
            intro j hj
            obtain ⟨o', ho', e, he, hb, rfl⟩ := waits_some hj
            obtain ⟨o2, ho2, he2⟩ := eldB_out (held i (by omega))
            rw [ho'] at ho2
            injection ho2 with ho2
            subst ho2
            have := he2 e he hb
            omega
          have hstep := howes i hi' a w hG hd hs (fun j hj => hF j (hwm j hj) (hw j hj).2) (fun t ht => hR t fun j hj hl he => by
            have h1 := hC j hj hl i (ht j he)
            rw [getT _ _ false true hlz, hui] at h1
            cases h1)
          refine wpOp_mono ?_ hstep
          rintro a' w' ⟨v, rfl, hg, hf⟩
          rw [hdo]
          refine ih (listed.setIfInBounds i true) (a.put (some d) v) w' (by simp [hsz]) (by rw [hset, if_neg (fun h => him h.symm)]; exact hun) (by rw [hset, if_neg (fun h => him2 h.symm)]; exact hun2) ?_ (htrans _ _ _ hG hg) (by exact hd) (by rw [put_size, hs]) ?_ ?_ ?_
          · have := filter_less (p := fun j => !listed.getD j true) (q := fun j => !(listed.setIfInBounds i true).getD j true) (i := i) (l := List.range ops.size) (fun x hx => by
              rw [hset] at hx
              by_cases e : x = i
              · rw [if_pos e] at hx; cases hx
              · rw [if_neg e] at hx; exact hx) (List.mem_range.2 hlt) (by rw [hui]; rfl) (by rw [hset, if_pos rfl]; rfl)
            omega
          · intro j hj hl
            by_cases e : j = i
            · subst e
              unfold valAt
              rw [hdo]
              simp only
              rw [put_same _ _ _ (by rw [hs]; exact hdl)]
              exact hf
            · rw [hset, if_neg e] at hl
              have h1 := hmono j hj _ _ _ (hF j hj hl) hg
              have h2 : valAt ops (a.put (some d) v) j = valAt ops a j := by
                unfold valAt
                have hne := hdd j hj e
                cases hjd : dstOf ops j with
                | none => rfl
                | some dj =>
                  simp only
                  exact put_other _ _ _ _ (fun h => hne (by rw [hjd]; exact h.symm))
              rw [h2]
              exact h1
          · intro t ht
            have h1 : some d ≠ some t := fun h => ht i hi' (by rw [hset, if_pos rfl]) (by rw [hdo]; exact h)
            rw [put_other _ _ _ _ h1]
            exact hR t fun j hj hl => ht j hj (by rw [hset]; split <;> simp_all)
          · intro j hj hl k hk
            rw [hset]
            by_cases e : k = i
            · rw [if_pos e]
            · rw [if_neg e]
              by_cases e2 : j = i
              · subst e2
                have h1 := hw k hk
                rw [getT _ _ false true (by omega)]
                exact h1.2
              · rw [hset, if_neg e2] at hl
                exact hC j hj hl k hk
  refine wp_region_any hm ?_
  refine main ops.size (Array.replicate ops.size false) a0 w0.drew (by simp) ?_ ?_ ?_ hrefl rfl rfl ?_ ?_ ?_
  · rw [Array.getD_eq_getD_getElem?, Array.getElem?_eq_getElem (by simp; omega)]
    simp
  · rw [Array.getD_eq_getD_getElem?, Array.getElem?_eq_getElem (by simp; omega)]
    simp
  · exact Nat.le_trans (List.length_filter_le _ _) (by simp)
  · intro j hj hl
    rw [Array.getD_eq_getD_getElem?, Array.getElem?_eq_getElem (by simp; omega)] at hl
    simp at hl
  · intro t _; rfl
  · intro j hj hl
    rw [Array.getD_eq_getD_getElem?, Array.getElem?_eq_getElem (by simp; omega)] at hl
    simp at hl
/-- region_tail2, by lists. -/
theorem region_by_tail2 {id m : Nat} (Fs : List (Value → World → Prop)) (ds : List Tmp)
    (hm : P.follows .mixedOrders = true) (hrefl : G w0 w0.drew) (htrans : ∀ a b c, G a b → G b c → G a c)
    (hreg : regT2B ops m a0.tmps.size = true) (hds : (List.range' 0 m).map (dstOf ops) = ds.map some)
    (hmono : ∀ f ∈ Fs, ∀ v a b, f v a → G a b → f v b)
    (howes : AllN (Owes P ops Q G (fun j => Fs.getD j fun _ _ => True) a0 w0) m 0)
    (fin : ∀ (vals : Nat → Value) (w : World), G w0 w → (∀ j, j < m → (Fs.getD j fun _ _ => True) (vals j) w) → wpOp P ops Q m (fun a w => wpOp P ops Q (m + 1) (fun a w => Q .normal a w) a w) (putD vals ds 0 a0) w) :
    (Code.region id ops true).wp P Q a0 w0 := by
  refine region_tail2 (m := m) hm hrefl htrans ?_ hreg (fun i hi => howes.at_ _ _ i (by omega) (by omega)) ?_
  · intro j _ v a b h g
    rw [List.getD_eq_getElem?_getD] at h ⊢
    cases hj : Fs[j]? with
    | none => rw [hj] at h; exact trivial
    | some f => rw [hj] at h; exact hmono f (List.mem_of_getElem? hj) v a b h g
  · intro vals w hG hF
    rw [List.range_eq_range', putD_eq vals ds m 0 a0 hds]
    exact fin vals w hG hF
/-- The last but one, by what it does alone; the last one behind it. -/
theorem next_spine {m : Nat} {K : Act → World → Prop} {d : Option Tmp} {op : Op} {type : TypeId} {a : Act} {w : World} (ho : (ops[m]?).map (fun o => (o.op, o.type)) = some (op, type)) (hdo : (ops[m]?).map (·.dst) = some d) (hg : (ops[m]?).bind (·.guard) = none)
    (h : wpList P #[{ dst := d, op, type, pos := "", after := #[], guard := none }] (SpineQ a.defers (fun _ => True) K) [{ dst := d, op, type, pos := "", after := #[], guard := none }] a w) : wpOp P ops Q m K a w := by
  cases hi : ops[m]? with
  | none => rw [hi] at ho; cases ho
  | some o =>
    rw [hi] at ho hdo hg
    obtain ⟨dst, op', type', pos, after, guard⟩ := o
    simp only [Option.map_some, Option.some.injEq, Prod.mk.injEq] at ho hdo
    obtain ⟨rfl, rfl⟩ := ho
    subst hdo
    simp only [Option.bind_some] at hg
    subst hg
    unfold wpOp
    rw [hi]
    unfold wpList at h
    simp only [Region.wanted, if_true] at h ⊢
    left
    have he : execOp a.eval { dst, op := op', type := type', pos, after, guard := none } = execOp a.eval { dst, op := op', type := type', pos := "", after := #[], guard := none } := by
      cases op' <;> rfl
    rcases h with h | ⟨_, h2⟩
    · unfold Oper.wp at h ⊢
      rw [he]
      generalize (execOp a.eval { dst, op := op', type := type', pos := "", after := #[], guard := none }).run P w = r at *
      cases r with
      | ok n w' =>
        cases n <;> simp only [Oper.upon, wpList] at h ⊢
        case value u => exact h.2.2
        case skip => exact h.2.2
        case defer u => exact h.2.2
        case enter f args =>
          refine Calls.mono h fun e w'' he => ?_
          cases e with
          | returned u => exact he.2.2
          | panicked c => exact he.elim
          | outgrown => obtain ⟨_, _, hf⟩ := he; exact hf.elim
        case row row args => exact Rows.mono h fun u w'' he => he.2.2
      | halt x w' =>
        cases x <;> simp only [Oper.upon] at h ⊢
        case panic u => exact h.elim
    · obtain ⟨_, _, h3⟩ := h2
      exact h3.elim
theorem wpOp_weak {m : Nat} {K K2 : Act → World → Prop} {a : Act} {w : World} (h : wpOp P ops Q m K a w) (hk : ∀ a w, K a w → K2 a w) : wpOp P ops Q m K2 a w := wpOp_mono (fun a w => hk a w) h
theorem next_spine2 {m n : Nat} {d d2 : Option Tmp} {op op2 : Op} {type type2 : TypeId} {a : Act} {w : World} (ho : (ops[m]?).map (fun o => (o.op, o.type)) = some (op, type)) (hdo : (ops[m]?).map (·.dst) = some d) (hg : (ops[m]?).bind (·.guard) = none)
    (ho2 : (ops[n]?).map (fun o => (o.op, o.type)) = some (op2, type2)) (hdo2 : (ops[n]?).map (·.dst) = some d2) (hg2 : (ops[n]?).bind (·.guard) = none)
    (h : wpList P #[{ dst := d, op, type, pos := "", after := #[], guard := none }] (SpineQ a.defers (fun _ => True) (fun a w => wpList P #[{ dst := d2, op := op2, type := type2, pos := "", after := #[], guard := none }] Q [{ dst := d2, op := op2, type := type2, pos := "", after := #[], guard := none }] a w)) [{ dst := d, op, type, pos := "", after := #[], guard := none }] a w) :
    wpOp P ops Q m (fun a w => wpOp P ops Q n (fun a w => Q .normal a w) a w) a w :=
  wpOp_weak (next_spine ho hdo hg h) fun _ _ h => last_list ho2 hdo2 hg2 h
end
end Go.Proofs.YtfodefgihicafaaDoor
/- What crc.Add and crc.Sum answer. Conditions: at most 2^31 bytes. -/
namespace Go.Proofs.YtfodefgihicafaaDoor
set_option linter.unusedVariables false
set_option linter.unusedSimpArgs false
open Go.RowKit
def tabL : List (BitVec 32) := [0x00000000, 0x1db71064, 0x3b6e20c8, 0x26d930ac, 0x76dc4190, 0x6b6b51f4, 0x4db26158, 0x5005713c, 0xedb88320, 0xf00f9344, 0xd6d6a3e8, 0xcb61b38c, 0x9b64c2b0, 0x86d3d2d4, 0xa00ae278, 0xbdbdf21c]
def idx (r : BitVec 32) : Nat := (r &&& 15#32).toNat
def tab1 (i : Nat) : BitVec 32 := tabL.getD i 0
def turnC (r : BitVec 32) : BitVec 32 := (r >>> 4) ^^^ tab1 (idx r)
def stepC (r : BitVec 32) (x : BitVec 8) : BitVec 32 := turnC (turnC (r ^^^ x.setWidth 32))
def addC (s : BitVec 32) (bs : List (BitVec 8)) : BitVec 32 := ~~~ bs.foldl stepC (~~~ s)
def u32v (x : BitVec 32) : Value := .int .u32 (U32 x)
theorem idx_lt (r : BitVec 32) : idx r < 16 := by
  unfold idx
  rw [BitVec.toNat_and, show (15#32).toNat = 2 ^ 4 - 1 from rfl, Nat.and_two_pow_sub_one_eq_mod]
  omega
theorem and15 (r : BitVec 32) : bits .and .u32 (U32 r) 15 = (idx r : Int) := by
  rw [show (15 : Int) = U32 15#32 from by decide +kernel, andU32]; rfl
theorem shr4U32 (r : BitVec 32) : U32 r / (16 : Int) = U32 (r >>> 4) := by
  rw [show (16 : Int) = 2 ^ 4 from by decide, shrU32]
theorem notU32 (s : BitVec 32) : bits .xor .u32 IntKind.u32.max (U32 s) = U32 (~~~ s) := by
  rw [show IntKind.u32.max = U32 (BitVec.allOnes 32) from by decide +kernel, xorU32]
  congr 1
  try (apply BitVec.eq_of_getLsbD_eq; intro i hi; simp [hi])
theorem xorU32U8 (r : BitVec 32) (x : BitVec 8) : bits .xor .u32 (U32 r) (U8 x) = U32 (r ^^^ x.setWidth 32) := by rw [u8_u32, xorU32]
theorem wrapu8u32 (x : BitVec 8) : IntKind.u32.wrap (U8 x) = U32 (x.setWidth 32) := by rw [u8_u32, wrapU32]
theorem tab_cell {W : World} {g : Nat} {E : TypeId} (h : Bk W g E #[.int .u32 0, .int .u32 498536548, .int .u32 997073096, .int .u32 651767980, .int .u32 1994146192, .int .u32 1802195444, .int .u32 1303535960, .int .u32 1342533948, .int .u32 3988292384, .int .u32 4027552580, .int .u32 3604390888, .int .u32 3412177804, .int .u32 2607071920, .int .u32 2262029012, .int .u32 2685067896, .int .u32 3183342108]) (i : Nat) (hi : i < 16) : W.cell? ⟨g, i, none⟩ = some (.int .u32 (U32 (tab1 i))) := by
  rw [h.cell]
  have : i = 0 ∨ i = 1 ∨ i = 2 ∨ i = 3 ∨ i = 4 ∨ i = 5 ∨ i = 6 ∨ i = 7 ∨ i = 8 ∨ i = 9 ∨ i = 10 ∨ i = 11 ∨ i = 12 ∨ i = 13 ∨ i = 14 ∨ i = 15 := by omega
  rcases this with rfl | rfl | rfl | rfl | rfl | rfl | rfl | rfl | rfl | rfl | rfl | rfl | rfl | rfl | rfl | rfl <;> rfl
set_option maxHeartbeats 400000
end Go.Proofs.YtfodefgihicafaaDoor
/- What crc.Sum, tail and Seal answer. Conditions: at most 2^31 bytes. -/
namespace Go.Proofs.YtfodefgihicafaaDoor
set_option linter.unusedVariables false
set_option linter.unusedSimpArgs false
open Go.RowKit
abbrev Pt : Type := Option Addr × List (BitVec 8) × Nat
def Pt.v (p : Pt) : Value := .slice p.1 p.2.1.length p.2.2
def Pt.l (p : Pt) : List (BitVec 8) := p.2.1
def sumC (ls : List (List (BitVec 8))) : BitVec 32 := ls.foldl addC 0
theorem sumC_snoc (ls : List (List (BitVec 8))) (l : List (BitVec 8)) : sumC (ls ++ [l]) = addC (sumC ls) l := by simp [sumC]
def tailL (s : BitVec 32) : List (BitVec 8) := [s.setWidth 8, (s >>> 8).setWidth 8, (s >>> 16).setWidth 8, (s >>> 24).setWidth 8]
def sealC (bs : List (BitVec 8)) : List (BitVec 8) := bs ++ tailL (addC 0 bs)
set_option maxHeartbeats 400000
theorem ret_cells' {v v' : Value} {w w' : World} (h : v = v') (hb : Below w.heap.size w w') : RetP v' w (.returned v) w' := ⟨by rw [h], hb⟩
theorem m8_0 (s : BitVec 32) : U32 s % 256 = U8 (s.setWidth 8) := by
  rw [← u32_u8]; simp [IntKind.wrap, IntKind.bits, IntKind.signed]
theorem sh8 (s : BitVec 32) : U32 s / (256 : Int) = U32 (s >>> 8) := by rw [show (256 : Int) = 2 ^ 8 from by decide, shrU32]
theorem sh16 (s : BitVec 32) : U32 s / (65536 : Int) = U32 (s >>> 16) := by rw [show (65536 : Int) = 2 ^ 16 from by decide, shrU32]
theorem sh24 (s : BitVec 32) : U32 s / (16777216 : Int) = U32 (s >>> 24) := by rw [show (16777216 : Int) = 2 ^ 24 from by decide, shrU32]
attribute [local go_sem] m8_0 sh8 sh16 sh24 u32_u8
/-- 'make([]T, 0, n)'. -/
theorem wp_make0 {P : Program} {α : Type} {f : α → Value} {t e : TypeId} {z : Value} {bytes : Nat} {w : World} {ops : Array Oper} {rest : List Oper} {o : Oper} {a : Act} {Q : Exit → Act → World → Prop} (one : One P t e z bytes) (hgd : o.guard = none) (l c : Operand) (hop : o.op = Op.makeSlice t l c)
    (base n : Nat) (kl kc : IntKind) (C : Int) (hl : a.eval l = .int kl 0) (hc : a.eval c = .int kc C) (hC : C = (n : Int)) (hn : n ≤ 4294967296) (hby : bytes ≤ 32768) (hbase : base ≤ w.heap.size)
    (h : ∀ w', Ow f e w' base (.slice (some ⟨w.heap.size, 0, none⟩) 0 n) [] → Below w.heap.size w w' → wpList P ops Q rest (a.put o.dst (.slice (some ⟨w.heap.size, 0, none⟩) 0 n)) w') :
    wpList P ops Q (o :: rest) a w := by
  obtain ⟨i, hi, hz, hsize, hbytes⟩ := one.info
  have hbb : i.bytes * n ≤ 281474976710656 := by
    rw [hbytes]
    have := Nat.mul_le_mul hby hn
    omega
  refine wpList_make_own w hgd l c t hop base e i z 1 one.under hi hz hsize kl kc C n hl hc hC hbb (by simp only [maxLen]; omega) hbase ?_
  intro w' ho hg
  exact h w' ho ((Below.refl _ _).grown hg (Nat.le_refl _) (by simp))
theorem Bk.grown {w w' : World} {g : Nat} {E : TypeId} {cs : Array Value} {row : Option Nat} (h : Bk w g E cs) (hg : w.grownBy w' row) (hne : some g ≠ row) : Bk w' g E cs := (hg.block g h.lt hne).trans h
end Go.Proofs.YtfodefgihicafaaDoor
