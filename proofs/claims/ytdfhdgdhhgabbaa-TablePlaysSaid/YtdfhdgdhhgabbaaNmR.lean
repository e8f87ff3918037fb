/- slices.SortedFunc of a table's names, any number of them. Conditions: lengths. -/
import Derived.Test.YtdfhdgdhhgabbaaNmQ
import Derived.Laws.IdiomRangeMap
namespace Go.Proofs.Ytdfhdgdhhgabbaa
set_option linter.unusedVariables false
set_option linter.unusedSimpArgs false
open Go.RowKit Go.Maps Go.Sort Go.Shelf
set_option maxRecDepth 100000
set_option maxHeartbeats 2000000
theorem keys1N_nil (F : Fence) (n : Nat) (h10 : F.fn 29) (hro : F.round = none) (l Bm : Nat) (J : List NW → World → Prop) (W : World) (hJ : AbidesFrom W.heap.size J)
    (hm : W.cell? ⟨Bm, 0, none⟩ = some (.map none)) (h0 : J [] W) :
    CallsIn F n Try.prog 29 #[.func (.yield l) #[] #[], .pointer (some ⟨Bm, 0, none⟩)] W fun e W' => (∃ v, e = .returned v) ∧ ∃ ss : List NW, ss = [] ∧ J ss W' := by
  refine callsIn_of_wp Try.func29 rfl h10 ?_ hro
  simp only [Try.ntmps29, List.size_toArray, List.length_cons, List.length_nil, Nat.reduceAdd, Nat.reduceSub, Array.replicate_succ, Array.replicate_zero, List.push_toArray, List.append_toArray, List.nil_append, List.cons_append]
  have hrg := run_range_nilMap (P := Try.prog) W 32 24 3 Try.underlying32
  have hnx : ∀ ty, (Instr.next (.pointer (some ⟨W.heap.size, 0, none⟩)) false ty).run Try.prog (W.alloc (.mapIter none 0 #[] 0)) = _ := fun ty => run_next_nilMap _ ty 0 0 #[]
  gi_wp2
  refine wpIn_loop_rounds 1 ?_
  rw [roundsIn_succ]
  gi_wp2
  go_end0
  exact ⟨⟨_, rfl⟩, [], rfl, hJ [] W _ none h0 (World.grownBy_alloc W _ none) (fun r e => by cases e)⟩
/-- The names of a table's map, nil or not. -/
theorem keysO_gives (F : Fence) (n : Nat) (h10 : F.fn 29) (hro : F.round = none) (hn : 1 ≤ n) (Bm : Nat) (mb : Option Nat) (m : Tb) (w : World) (hBm : Bm < w.heap.size)
    (hm : w.cell? ⟨Bm, 0, none⟩ = some (.map mb)) (hset : NmO w mb m) :
    SeqGives F n Try.prog 29 #[.pointer (some ⟨Bm, 0, none⟩)] nE (fun ss => (ss.map Subtype.val).Perm (m.map Prod.fst)) m.length w := by
  cases mb with
  | some b => exact keysN_gives F n h10 hro hn Bm b m w hBm hm hset
  | none =>
    obtain rfl : m = [] := hset
    intro l J W hW hJ hY h0
    refine (keys1N_nil F n h10 hro l Bm J W hJ ((hW.cell (p := ⟨Bm, 0, none⟩) hBm).trans hm) h0).mono ?_
    rintro e W' ⟨h1, ss, rfl, h2⟩
    exact ⟨h1, [], List.Perm.refl _, h2⟩
/-- slices.SortedFunc of an iterator. -/
theorem sortedN_c (g : Nat) (lb : Array Value) (eg : ∀ args w, (callFunc g args).run Try.prog w = .ok (.enter g args) w)
    (S : List NW → Prop) (N : Nat) (hN : N ≤ 100000) (w : World) (hseq : SeqGives Fence.wide 4 Try.prog g lb nE S N w) (hSN : ∀ ss, S ss → ss.length ≤ 100000) :
    Calls Try.prog 22 #[.func (.func g) #[] lb, .func (.func 24) #[] #[]] w fun e w' => ∃ (v : Value) (ss : List NW), e = .returned v ∧ S ss ∧ NR w' w.heap.size v (sortW ss) ∧ Below w.heap.size w w' := by
  have HC := Lib.hid ((callsIn_wide (n := 6)).1 (collectN_in Fence.wide 6 trivial trivial rfl (by omega) g lb trivial eg S N hN w hseq))
  clear hseq
  go_enter Try.func22, Try.ntmps22
  go_wp2_with fail
  refine Calls.mono HC.out ?_
  rintro e w1 ⟨v, ss, rfl, hS, hrow, hb⟩
  obtain ⟨A, c, rfl, _, _⟩ := hrow.slice
  have HS := Lib.hid (sortN_c w1 w.heap.size A c ss hrow (hSN ss hS) hb.size)
  have HR := Lib.hid (And.intro hS hb)
  obtain ⟨n, hn⟩ : ∃ n, n = ss.length := ⟨_, rfl⟩
  rw [← hn] at HS ⊢
  have HN := Lib.hid hn
  clear hrow hS hb hn
  go_wp2_with fail
  refine Calls.mono HS.out ?_
  rintro e w2 ⟨rfl, h2, hb2, _⟩
  have H2 := Lib.hid (And.intro h2 hb2)
  clear h2 hb2
  go_wp2_with fail
  go_ret
  exact ⟨_, ss, rfl, HR.out.1, H2.out.1, HR.out.2.trans H2.out.2⟩
theorem perm_names {m : Tb} {ss : List NW} (h : (ss.map Subtype.val).Perm (m.map Prod.fst)) : ss.length = m.length := by
  have := h.length_eq
  simpa using this
end Go.Proofs.Ytdfhdgdhhgabbaa
