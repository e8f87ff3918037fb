/- Keys of a map that are structs: maps.Keys, slices.Collect: all of them, each once, in some order. Conditions: lengths. -/
import Derived.Test.YtdfhdgdhhgabbaaNmE
import Derived.Shelf.SlIterI.Collect
import Derived.OwnWalkIn
namespace Go.Proofs.Ytdfhdgdhhgabbaa
set_option linter.unusedVariables false
set_option linter.unusedSimpArgs false
open Go.RowKit Go.Maps Go.Sort Go.Shelf
set_option maxRecDepth 100000
set_option maxHeartbeats 2000000
section
variable {F : Fence} {nF : Nat} {ops : Array Oper} {rest : List Oper} {o : Oper} {a : Act} {w : World} {Q : Exit → Act → World → Prop}
theorem wpIn_loadN (hg : o.guard = none) (x : Operand) (ho : o.op = .load 24 x) (g : Nat) (hx : a.eval x = .pointer (some ⟨g, 0, none⟩)) (E : TypeId) (cs : Array Value) (hb : Bk w g E cs) (hs : cs.size = 32)
    (h : wpListIn F nF Try.prog ops Q rest (a.put o.dst (.agg cs)) w) : wpListIn F nF Try.prog ops Q (o :: rest) a w := by
  refine wpListIn_plain hg fun K' hK' => ?_
  unfold Oper.wpIn
  refine ⟨by simp [Oper.about, ho], ?_⟩
  rw [Oper.semAt_plain F _ _ (by rw [ho]; intro c hc'; cases hc')]
  simp [execOp, ho, hx, Instr.loadAt, Instr.sureAddr, ldN hb hs, Result.andThen]
  exact hK' _ _ h
theorem setRow_new (w : World) (E : TypeId) (old cs : Array Value) : (w.alloc (.cells old E)).setRow w.heap.size cs = w.alloc (.cells cs E) := by
  have h : ((w.alloc (.cells old E)).setRow w.heap.size cs).heap = (w.alloc (.cells cs E)).heap := by
    apply Array.ext_getElem?
    intro k
    by_cases hk : k = w.heap.size
    · subst hk
      rw [setRow_heap (w.alloc (.cells old E)) w.heap.size old cs E (0, 0) (heap_alloc_new w _)]
      exact (heap_alloc_new w _).symm
    · rw [setRow_other _ _ _ _ hk]
      show (w.heap.push _)[k]? = (w.heap.push _)[k]?
      rw [Array.getElem?_push, Array.getElem?_push, if_neg hk, if_neg hk]
  have e : ∀ a b : World, a.heap = b.heap → a.tape = b.tape → a.drawn = b.drawn → a.os = b.os → a.output = b.output → a = b := by
    intro a b h1 h2 h3 h4 h5
    cases a
    cases b
    simp only at h1 h2 h3 h4 h5
    subst h1 h2 h3 h4 h5
    rfl
  exact e _ _ h rfl rfl rfl rfl
theorem wpIn_storeNew (hg : o.guard = none) (x y : Operand) {w0 : World} {z0 : Array Value} (hw : w = w0.alloc (.cells z0 24)) (ho : o.op = .store 24 x y) (cs : Array Value) (hx : a.eval x = .pointer (some ⟨w0.heap.size, 0, none⟩)) (hy : a.eval y = .agg cs) 
    (hs : cs.size = 32) (hold : z0.size = 32) (h1 : cs.all (·.oneCell') = true)
    (h : wpListIn F nF Try.prog ops Q rest (a.put o.dst undef) (w0.alloc (.cells cs 24))) : wpListIn F nF Try.prog ops Q (o :: rest) a w := by
  subst hw
  have hrun := run_storeVar_row (P := Try.prog) (w0.alloc (.cells z0 24)) w0.heap.size 24 24 z0 cs (Bk.new w0 _ _) (by rw [hs]; kernel_rfl) (by rw [hs, hold]) h1
  rw [setRow_new] at hrun
  refine wpListIn_plain hg fun K' hK' => ?_
  unfold Oper.wpIn
  refine ⟨by simp [Oper.about, ho], ?_⟩
  rw [Oper.semAt_plain F _ _ (by rw [ho]; intro c hc'; cases hc')]
  simp [execOp, ho, hx, hy, Instr.storeAt, Instr.sureAddr, hrun, Result.andThen]
  exact hK' _ _ h
end
/-- Names of the right length. -/
abbrev NW := { k : Nm // nW k }
def nE (x : NW) : Value := nV x.1
def CollectedN (D0 : DataW Unit) (left : Lit → Bool) (ss : List NW) : Prop := ss.Nodup ∧ ∀ x : NW, (x ∈ ss ↔ (has D0 (keyN x.1) = true ∧ left (keyN x.1) = false))
theorem CollectedN.start (D0 : DataW Unit) : CollectedN D0 (has D0) [] := ⟨List.nodup_nil, fun x => by cases has D0 (keyN x.1) <;> simp⟩
theorem CollectedN.step {D0 : DataW Unit} {left : Lit → Bool} {ss : List NW} (h : CollectedN D0 left ss) {x : NW} {y : DataW Unit} (hlk : left (keyN x.1) = true) (hat : ∀ zd, D0.atKey (keyN x.1) zd = y) : CollectedN D0 (fun z => left z && !z.sameKey (keyN x.1)) (ss ++ [x]) := by
  have hhas : has D0 (keyN x.1) = true := has_true_of_atKey hat
  have hnew : x ∉ ss := fun hm => by have := ((h.2 x).1 hm).2; rw [hlk] at this; cases this
  refine ⟨List.nodup_append.2 ⟨h.1, by simp, fun a ha b hb => by simp at hb; subst hb; exact fun e => hnew (e ▸ ha)⟩, fun z => ?_⟩
  by_cases hy : z = x
  · subst hy; simp [hhas, WideAt.sameKey_self (keyN_key z.2)]
  · have hne : (keyN z.1).sameKey (keyN x.1) = false := sameKey_ne (fun e => hy (Subtype.ext (keyN_inj z.2 x.2 e)))
    simp only [List.mem_append, List.mem_singleton, hy, or_false, hne, Bool.not_false, Bool.and_true]
    exact h.2 z
theorem CollectedN.perm {D0 : DataW Unit} {left : Lit → Bool} {ss : List NW} {m : List Nm} (h : CollectedN D0 left ss) (hh : ∀ p, nW p → has D0 (keyN p) = decide (p ∈ m)) (hw : ∀ p ∈ m, nW p) (hn : m.Nodup) (hl : ∀ kl, left kl = false) : (ss.map Subtype.val).Perm m := by
  have hnd : (ss.map Subtype.val).Nodup := List.Pairwise.map _ (fun a b hab e => hab (Subtype.ext e)) h.1
  refine (List.perm_ext_iff_of_nodup hnd hn).2 fun x => ?_
  constructor
  · intro hx
    obtain ⟨y, hy, rfl⟩ := List.mem_map.1 hx
    have := ((h.2 y).1 hy).1
    rw [hh y.1 y.2] at this
    simpa using this
  · intro hx
    exact List.mem_map.2 ⟨⟨x, hw x hx⟩, (h.2 ⟨x, hw x hx⟩).2 ⟨by rw [hh x (hw x hx)]; simpa using hx, hl _⟩, rfl⟩
theorem keys1N_in (F : Fence) (n : Nat) (h10 : F.fn 29) (hro : F.round = none) (hn : 1 ≤ n) (l Bm b : Nat) (m : Tb) (J : List NW → World → Prop)
    (hY : ∀ pre x W, J pre W → pre.length < m.length → YieldAt F (n - 1) Try.prog l #[nE x] W fun e W' => e = .returned (.bool true) ∧ J (pre ++ [x]) W' ∧ KeepsWalks W W')
    (W : World) (hJ : AbidesFrom W.heap.size J) (hm : W.cell? ⟨Bm, 0, none⟩ = some (.map (some b))) (hset : NmIs W b m) (h0 : J [] W) :
    CallsIn F n Try.prog 29 #[.func (.yield l) #[] #[], .pointer (some ⟨Bm, 0, none⟩)] W fun e W' => (∃ v, e = .returned v) ∧ ∃ ss : List NW, (ss.map Subtype.val).Perm (m.map Prod.fst) ∧ J ss W' := by
  obtain ⟨D0, hown, hsz, hhas, hwf, hnd⟩ := hset
  refine callsIn_of_wp Try.func29 rfl h10 ?_ hro
  simp only [Try.ntmps29, List.size_toArray, List.length_cons, List.length_nil, Nat.reduceAdd, Nat.reduceSub, Array.replicate_succ, Array.replicate_zero, List.push_toArray, List.append_toArray, List.nil_append, List.cons_append]
  gi_wp2_with (first
    | (gi_at_range; refine wpListIn_range_own _ rfl _ 32 rfl 24 3 lawN Try.underlying32 (plainElem Try.prog 3) b m.length D0 rfl hown ?_; intro w0 hrg0 hg0 hs0)
    | gi_in)
  go_frame
  gi_loopw [3] (fun _ wr => ∃ (left : Lit → Bool) (cnt : Nat) (ss : List NW), wr.ranges Try.prog 24 (plainElem Try.prog 3) b W.heap.size m.length D0 left cnt ∧ ss.length + cnt ≤ Maps.size D0 ∧ CollectedN D0 left ss ∧ J ss wr)
    (fun _ wr => wr.rangeLeft b W.heap.size)
  case atStart =>
    exact ⟨_, _, [], hrg0, by simp, CollectedN.start D0, hJ [] W w0 none h0 hg0 (fun r e => by cases e)⟩
  case round =>
    obtain ⟨left, cnt, ss, hrg, hcs, hC, hJs⟩ := hrel
    gi_wp2_with (first
      | (gi_at_next; refine wpListIn_next_ranges _ rfl _ rfl 24 lawN (plainElem Try.prog 3) nE (fun a : Int => .int .i64 a) (fun key kl hk => by obtain ⟨x, hx, hw, _⟩ := name_inv hk; exact ⟨⟨x, hw⟩, hx⟩) (fun v y hv => by obtain ⟨a, ha, _⟩ := plainElem_int_inv Try.underlying3 hv; exact ⟨a, ha⟩) b W.heap.size m.length D0 left cnt rfl hrg ?_ ?_)
      | gi_in)
    · -- nothing is left
      intro hc0 hl0
      gi_wp2
      go_end0
      exact ⟨⟨_, rfl⟩, ss, hC.perm (fun p hp => by rw [(hhas p hp).1]; rw [Bool.eq_iff_iff, vOf_mem, decide_eq_true_eq]) (fun p hp => by obtain ⟨q, hq, rfl⟩ := List.mem_map.1 hp; exact hwf q hq) hnd hl0, hJs⟩
    · -- a key has come
      intro x1 hx1 y1 kl yd yp w2 cnt2 hkey hlk hv hat hrg2 hlt hg2 hs2 hen
      obtain ⟨x', ex, hx, rfl⟩ := name_inv hkey
      obtain rfl : x1 = x' := nV_inj ex
      have hJ2 : J ss w2 := hJ ss wr w2 (some W.heap.size) hJs hg2 (fun r e => by cases e; exact ⟨Nat.le_refl _, hrg.iter_walk⟩)
      have hJ3 : J ss (w2.alloc (.cells (nC x1) 24)) := hJ ss w2 _ none hJ2 (World.grownBy_alloc w2 _ none) (fun r e => by cases e)
      obtain ⟨fn, tmps, assign, body, hy, hR⟩ := hY ss ⟨x1, hx1⟩ _ hJ3 (by rw [← hsz]; omega)
      unfold nE nV at hen hy
      have HX := Lib.hid hx
      obtain ⟨arr, harr⟩ : ∃ arr, arr = nC x1 := ⟨_, rfl⟩
      rw [← harr] at hen hy hR hJ3
      try simp only [nE]
      try simp only [nV]
      try rw [← harr]
      have HAS := Lib.hid (show arr.size = 32 from by rw [harr]; exact nC_size hx)
      have HAO := Lib.hid (show arr.all (·.oneCell') = true from by rw [harr]; exact nC_one x1)
      obtain ⟨za, hza⟩ : ∃ za, za = nC zN := ⟨_, rfl⟩
      have hzero := zeroN
      rw [← hza] at hzero
      have HZS := Lib.hid (show za.size = 32 from by rw [hza]; exact nC_size zN_w)
      have HARR := Lib.hid harr
      clear hs2 hza harr
      gi_wp2_with (first
        | (refine wpIn_storeNew rfl _ _ rfl rfl arr rfl rfl HAS.out HZS.out HAO.out ?_)
        | (refine wpIn_loadN rfl _ rfl w2.heap.size rfl 24 arr (Bk.new w2 24 arr) HAS.out ?_)
        | gi_in)
      refine hR.mono ?_
      rintro e W3 ⟨rfl, hJ4, hk3⟩
      gi_wp2
      have hrg3 := hrg2.of_walks ((KeepsWalks.alloc w2 _).trans hk3)
      go_roundw
      case rel => exact ⟨_, cnt2, ss ++ [⟨x1, hx1⟩], hrg3, by simp; omega, hC.step (x := ⟨x1, hx1⟩) hlk hat, hJ4⟩
      case measure => rw [hrg3.left_eq, hrg.left_eq]; exact hlt
theorem keysN_gives (F : Fence) (n : Nat) (h10 : F.fn 29) (hro : F.round = none) (hn : 1 ≤ n) (Bm b : Nat) (m : Tb) (w : World) (hBm : Bm < w.heap.size)
    (hm : w.cell? ⟨Bm, 0, none⟩ = some (.map (some b))) (hset : NmIs w b m) :
    SeqGives F n Try.prog 29 #[.pointer (some ⟨Bm, 0, none⟩)] nE (fun ss => (ss.map Subtype.val).Perm (m.map Prod.fst)) m.length w := fun l J W hW hJ hY h0 =>
  keys1N_in F n h10 hro hn l Bm b m J hY W hJ ((hW.cell (p := ⟨Bm, 0, none⟩) hBm).trans hm) (hset.below hW) h0
end Go.Proofs.Ytdfhdgdhhgabbaa
