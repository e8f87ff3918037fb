/- CodeBack: the writer and the row beside it. Conditions: lengths. -/
import Derived.Test.YteefcimepdbehaaCodG
namespace Go.Proofs.Yteefcimepdbehaa
set_option linter.unusedVariables false
set_option linter.unusedSimpArgs false
open Go.RowKit
set_option maxRecDepth 100000
def itmL (x : Itm) : List (BitVec 8) := if x.op = 1 then uintL x.u else if x.op = 2 then uintL (zigL x.i) else if x.op = 3 then uintL (BitVec.ofNat 64 x.bb.length) ++ x.bb else if x.op = 4 then wordsL x.ww else []
def flatI (l : List Itm) : List (BitVec 8) := (l.map itmL).flatten
theorem flatI_snoc (l : List Itm) (k : Nat) (hk : k < l.length) : flatI (l.take (k + 1)) = flatI (l.take k) ++ itmL l[k] := by
  unfold flatI
  rw [List.take_succ_eq_append_getElem hk, List.map_append, List.flatten_append]
  simp only [List.map_cons, List.map_nil, List.flatten_cons, List.flatten_nil, List.append_nil]
theorem flatI_cons (l : List Itm) (k : Nat) (hk : k < l.length) : flatI (l.drop k) = itmL l[k] ++ flatI (l.drop (k + 1)) := by
  unfold flatI
  rw [List.drop_eq_getElem_cons hk, List.map_cons, List.flatten_cons]
theorem wordsL_len (ws : List (BitVec 64)) : (wordsL ws).length ≤ 10 + 8 * ws.length := by
  have h1 : (uintL (BitVec.ofNat 64 ws.length)).length ≤ 10 := uintF_len 9 _
  have h2 := flatW_len ws
  unfold flatW at h2
  unfold wordsL
  rw [List.length_append, h2]
  omega
theorem itmL_len (x : Itm) (h1 : x.bb.length ≤ 500) (h2 : x.ww.length ≤ 100) : (itmL x).length ≤ 1000 := by
  have u1 : (uintL x.u).length ≤ 10 := uintF_len 9 _
  have u2 : (uintL (zigL x.i)).length ≤ 10 := uintF_len 9 _
  have u3 : (uintL (BitVec.ofNat 64 x.bb.length)).length ≤ 10 := uintF_len 9 _
  have u4 := wordsL_len x.ww
  unfold itmL
  split
  · omega
  · split
    · omega
    · split
      · rw [List.length_append]; omega
      · split
        · omega
        · simp
theorem fewI_out {l : List Itm} (h : fewI l = true) (k : Nat) (hk : k < l.length) : l[k].bb.length ≤ 500 ∧ l[k].ww.length ≤ 100 := by
  unfold fewI at h
  rw [List.all_eq_true] at h
  have := h l[k] (List.getElem_mem hk)
  simpa using this
theorem flatI_len (l : List Itm) (h : fewI l = true) : (flatI l).length ≤ 1000 * l.length := by
  induction l with
  | nil => simp [flatI]
  | cons x l ih =>
    have h2 : fewI l = true := by
      unfold fewI at h ⊢
      rw [List.all_cons, Bool.and_eq_true] at h
      exact h.2
    have h3 := fewI_out h 0 (by simp)
    have h4 := itmL_len x h3.1 h3.2
    have h5 := ih h2
    have e : flatI (x :: l) = itmL x ++ flatI l := by simp [flatI]
    rw [e, List.length_append, List.length_cons]
    omega
theorem fewI_take {l : List Itm} (h : fewI l = true) (k : Nat) : fewI (l.take k) = true := by
  unfold fewI at *
  rw [List.all_eq_true] at *
  exact fun x hx => h x (List.mem_of_mem_take hx)
theorem fewI_drop {l : List Itm} (h : fewI l = true) (k : Nat) : fewI (l.drop k) = true := by
  unfold fewI at *
  rw [List.all_eq_true] at *
  exact fun x hx => h x (List.mem_of_mem_drop hx)
def BackS (w0 : World) (B g : Nat) (vw : Value) (es ws : List (BitVec 8)) (W : World) : Prop :=
  ∃ v, EncAt W B g v es ∧ Ow b8 5 W B vw ws ∧ (∀ q, vw.ownBlock = some q → q ≠ g ∧ v.ownBlock ≠ some q) ∧ Below B w0 W
theorem BackS.step {w0 W : World} {B g : Nat} {vw : Value} {es es' ws : List (BitVec 8)} {f : FuncId} {args : Array Value} (h : BackS w0 B g vw es ws W) (k : ∀ v, EncAt W B g v es → Calls Try.prog f args W (EncP B g v es' W)) :
    Calls Try.prog f args W fun e w' => e = .returned (.tuple #[]) ∧ BackS w0 B g vw es' ws w' := by
  obtain ⟨v, he, ho, ha, hb⟩ := h
  refine (k v he).mono ?_
  rintro e w' ⟨rfl, v', he', hm⟩
  refine ⟨rfl, v', he', ?_, ?_, hb.trans (hm.below he)⟩
  · obtain ⟨h1, h2⟩ := ho
    refine ⟨h1, ?_⟩
    rcases h2 with h2 | ⟨q, cap, cur, e, hB, hh, r⟩
    · exact .inl h2
    · have hq := ha q (by rw [e]; rfl)
      have hql : q < W.heap.size := by
        rcases Nat.lt_or_ge q W.heap.size with h | h
        · exact h
        · rw [Array.getElem?_eq_none h] at hh; cases hh
      exact .inr ⟨q, cap, cur, e, hB, (hm.block q hql hq.1 hq.2).trans hh, r⟩
  · intro q hq
    refine ⟨(ha q hq).1, fun e2 => ?_⟩
    have hql := (ho.lt q hq).2
    rcases hm.own with h | h
    · rw [h] at e2; exact (ha q hq).2 e2
    · have := h q e2; omega
theorem BackS.below {w0 W W' : World} {B g : Nat} {vw : Value} {es ws : List (BitVec 8)} (h : BackS w0 B g vw es ws W) (hb : Below W.heap.size W W') : BackS w0 B g vw es ws W' := by
  obtain ⟨v, he, ho, ha, hB⟩ := h
  exact ⟨v, he.below hb, ho.below hb, ha, hB.trans (hb.mono (Nat.le_trans he.ge (Nat.le_of_lt he.blk.lt)))⟩
theorem BackS.app {w0 W W' : World} {B g : Nat} {vw v4 : Value} {es ws ws' : List (BitVec 8)} (h : BackS w0 B g vw es ws W) (ho : Ow b8 5 W' B v4 ws') (hg : W.grownBy W' vw.ownBlock) (hv : v4.ownBlock = vw.ownBlock ∨ v4.ownBlock = some W.heap.size) (hb : Below B W W') : BackS w0 B g v4 es ws' W' := by
  obtain ⟨v, he, ho', ha, hB⟩ := h
  have hgl := he.blk.lt
  have hne : some g ≠ vw.ownBlock := fun e => (ha g e.symm).1 rfl
  refine ⟨v, ⟨(hg.block g hgl hne).trans he.blk, he.ge, he.row.kept hg ?_, he.ne⟩, ho, ?_, hB.trans hb⟩
  · cases hv0 : v.ownBlock with
    | none => exact .inl rfl
    | some b => exact .inr (fun e => (ha b e.symm).2 hv0)
  · intro q hq
    rcases hv with h | h
    · rw [h] at hq; exact ha q hq
    · rw [h] at hq
      injection hq with hq
      refine ⟨by omega, fun e => ?_⟩
      have := (he.row.lt q e).2
      omega
theorem BackS.uint {w0 W : World} {B g : Nat} {vw : Value} {es ws : List (BitVec 8)} (x : BitVec 64) (h : BackS w0 B g vw es ws W) (hl : es.length ≤ 1073741824) :
    Calls Try.prog 17 #[.pointer (some ⟨g, 0, none⟩), .int .u64 (U64 x)] W fun e w' => e = .returned (.tuple #[]) ∧ BackS w0 B g vw (es ++ uintL x) ws w' :=
  h.step fun v he => enc_uint W B g v es x he hl
theorem BackS.int {w0 W : World} {B g : Nat} {vw : Value} {es ws : List (BitVec 8)} (x : BitVec 64) (h : BackS w0 B g vw es ws W) (hl : es.length ≤ 1073741824) :
    Calls Try.prog 19 #[.pointer (some ⟨g, 0, none⟩), .int .i64 (I64 x)] W fun e w' => e = .returned (.tuple #[]) ∧ BackS w0 B g vw (es ++ uintL (zigL x)) ws w' :=
  h.step fun v he => enc_int W B g v es x he hl
theorem BackS.raw {w0 W : World} {B g : Nat} {vw : Value} {es ws : List (BitVec 8)} (A : Option Addr) (c : Nat) (xs : List (BitVec 8)) (h : BackS w0 B g vw es ws W) (hr : Rd b8 W B A xs) (hl : es.length ≤ 536870912) (hx : xs.length ≤ 536870912) :
    Calls Try.prog 21 #[.pointer (some ⟨g, 0, none⟩), .slice A xs.length c] W fun e w' => e = .returned (.tuple #[]) ∧ BackS w0 B g vw (es ++ (uintL (BitVec.ofNat 64 xs.length) ++ xs)) ws w' :=
  h.step fun v he => enc_raw W B g v es A c xs he (hr.more (Nat.le_trans he.ge (Nat.le_of_lt he.blk.lt))) (fun h0 a e => by
    obtain ⟨ad, e2, hb, _⟩ := hr 0 h0
    rw [e] at e2
    injection e2 with e2
    subst e2
    have := he.ge
    exact ⟨by omega, fun e3 => by have := (he.row.lt _ e3).1; omega⟩) hl hx
theorem BackS.words {w0 W : World} {B g : Nat} {vw : Value} {es ws : List (BitVec 8)} (A : Option Addr) (c : Nat) (xs : List (BitVec 64)) (h : BackS w0 B g vw es ws W) (hr : Rd u64v W B A xs) (hl : es.length ≤ 268435456) (hx : xs.length ≤ 10000000) :
    Calls Try.prog 23 #[.pointer (some ⟨g, 0, none⟩), .slice A xs.length c] W fun e w' => e = .returned (.tuple #[]) ∧ BackS w0 B g vw (es ++ wordsL xs) ws w' :=
  h.step fun v he => enc_words W B g v es A c xs he (hr.more (Nat.le_trans he.ge (Nat.le_of_lt he.blk.lt))) (fun h0 a e => by
    obtain ⟨ad, e2, hb, _⟩ := hr 0 h0
    rw [e] at e2
    injection e2 with e2
    subst e2
    have := he.ge
    exact ⟨by omega, fun e3 => by have := (he.row.lt _ e3).1; omega⟩) hl hx
end Go.Proofs.Yteefcimepdbehaa
