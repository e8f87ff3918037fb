/- key.Set's Row; key.Sorted; key.Pack, key.Unpack. Conditions: lengths. -/
import Derived.Test.YtgddehhigamkkaaKyJ
namespace Go.Proofs.Ytgddehhigamkkaa
set_option linter.unusedVariables false
set_option linter.unusedSimpArgs false
open Go.RowKit Go.Maps Go.Sort Go.Shelf
set_option maxHeartbeats 1000000
set_option maxRecDepth 100000
theorem mkeys_c (mb : Option Nat) (w : World) : Calls Try.prog 26 #[.map mb] w fun e w' => e = .returned (.func (.func 31) #[] #[.pointer (some ⟨w.heap.size, 0, none⟩)]) ∧ w' = w.alloc (.cells #[.map mb] 35) := by
  go_enter Try.func26, Try.ntmps26
  go_wp2_with fail
  go_ret
  exact ⟨rfl, rfl⟩
theorem keysK_nil (F : Fence) (n : Nat) (h10 : F.fn 31) (hro : F.round = none) (Bm : Nat) (w : World) (hBm : Bm < w.heap.size) (hm0 : w.cell? ⟨Bm, 0, none⟩ = some (.map none)) :
    SeqGives F n Try.prog 31 #[.pointer (some ⟨Bm, 0, none⟩)] kV (fun ss : List (Int × Int) => ss.Perm []) 0 w := fun l J W hW hJ _ h0 => by
  have hm : W.cell? ⟨Bm, 0, none⟩ = some (.map none) := (hW.cell (p := ⟨Bm, 0, none⟩) hBm).trans hm0
  refine callsIn_of_wp Try.func31 rfl h10 ?_ hro
  simp only [Try.ntmps31, List.size_toArray, List.length_cons, List.length_nil, Nat.reduceAdd, Nat.reduceSub, Array.replicate_succ, Array.replicate_zero, List.push_toArray, List.append_toArray, List.nil_append, List.cons_append]
  have hrg := run_range_nilMap (P := Try.prog) W 35 23 56 Try.underlying35
  have hnx : ∀ ty, (Instr.next (.pointer (some ⟨W.heap.size, 0, none⟩)) false ty).run Try.prog (W.alloc (.mapIter none 0 #[] 0)) = _ := fun ty => run_next_nilMap _ ty 0 0 #[]
  gi_wp2
  refine wpIn_loop_rounds 1 ?_
  rw [roundsIn_succ]
  gi_wp2
  go_end0
  exact ⟨⟨_, rfl⟩, [], List.Perm.refl _, hJ [] W _ none h0 (World.grownBy_alloc W _ none) (fun r e => by cases e)⟩
theorem srow_c {B : Nat} {X : Nat → Prop} {w : World} {g : Nat} {m : List (Int × Int)} (h : SetX B X w g m) (hm : m.length ≤ 100000) :
    Calls Try.prog 19 #[.pointer (some ⟨g, 0, none⟩)] w fun e w' => ∃ v, e = .returned v ∧ KR w' w.heap.size v (sortN m) ∧ Below w.heap.size w w' := by
  obtain ⟨mb, h1, h2⟩ := h
  have c0 := h1.blk.cell 0
  have hseq : ∃ N, N ≤ 100000 ∧ SeqGives Fence.wide 4 Try.prog 31 #[.pointer (some ⟨w.heap.size, 0, none⟩)] kV (fun ss => ss.Perm m) N (w.alloc (.cells #[.map mb] 35)) := by
    cases mb with
    | none =>
      have e : m = [] := h1.set
      subst e
      exact ⟨0, by omega, keysK_nil Fence.wide 4 trivial rfl w.heap.size _ (by simp) ((Bk.new w 35 #[.map none]).cell 0)⟩
    | some b => exact ⟨m.length, hm, keysK_gives Fence.wide 4 trivial rfl (by omega) w.heap.size b m _ (by simp) ((Bk.new w 35 #[.map (some b)]).cell 0) (SetIs.below h1.set (Gw.alloc w _))⟩
  obtain ⟨N, hN, hseq⟩ := hseq
  have HS := Lib.hid (sortedFunc_c 31 #[.pointer (some ⟨w.heap.size, 0, none⟩)] (enters_of Try.func31 (by kernel_rfl) rfl) _ N hN _ hseq (fun ss hs => by have h3 : ss.Perm m := hs; rw [h3.length_eq]; exact hm))
  clear h1 h2 hseq hN hm
  go_enter Try.func19, Try.ntmps19
  go_wp2_with fail
  refine Calls.mono (mkeys_c mb w) ?_
  rintro e w1 ⟨rfl, rfl⟩
  go_wp2_with fail
  refine Calls.mono HS.out ?_
  rintro e w2 ⟨v, ss, rfl, hp, hr, hb⟩
  have hp2 : ss.Perm m := hp
  rw [sortN_perm hp2] at hr
  obtain ⟨A, c, rfl, _, _⟩ := hr.slice
  have HR := Lib.hid (And.intro hr ((Gw.alloc w _).trans (hb.mono (by simp))))
  obtain ⟨n, hn⟩ : ∃ n, n = (sortN m).length := ⟨_, rfl⟩
  rw [← hn] at HR ⊢
  clear hr hb hp hp2 hn
  go_wp2_with fail
  go_ret
  refine ⟨_, rfl, ?_, HR.out.2⟩
  obtain ⟨h3, h4⟩ := HR.out.1
  refine ⟨h3, ?_⟩
  rcases h4 with h4 | ⟨q, cap, cur, e, hq, r⟩
  · exact .inl h4
  · exact .inr ⟨q, cap, cur, e, by simp at hq; omega, r⟩
theorem sorted_c (w : World) (A : Option Addr) (c : Nat) (l : List (Int × Int)) (hr : RdK w A l) (hA : A = none → l = []) (hl : l.length ≤ 100000) :
    Calls Try.prog 22 #[.slice A l.length c] w fun e w' => ∃ v, e = .returned v ∧ KR w' w.heap.size v (sortN l) ∧ Below w.heap.size w w' := by
  have HC := Lib.hid (cloneK_c w A c l hr hA hl)
  obtain ⟨n, hn⟩ : ∃ n, n = l.length := ⟨_, rfl⟩
  rw [← hn] at HC ⊢
  have HN := Lib.hid (And.intro hn hl)
  clear hr hA hl hn
  go_enter Try.func22, Try.ntmps22
  go_wp2_with fail
  refine Calls.mono HC.out ?_
  rintro e w1 ⟨v, rfl, hv, hb⟩
  obtain ⟨A1, c1, rfl, _, _⟩ := hv.slice
  have HS := Lib.hid (sortK_c w1 w.heap.size A1 c1 l hv HN.out.2 hb.size)
  rw [← HN.out.1] at HS ⊢
  have HB := Lib.hid hb
  clear hv hb
  go_wp2_with fail
  refine Calls.mono HS.out ?_
  rintro e w2 ⟨rfl, h2, hb2, _⟩
  have H2 := Lib.hid (And.intro h2 (HB.out.trans hb2))
  clear h2 hb2
  go_wp2_with fail
  go_ret
  exact ⟨_, rfl, H2.out.1, H2.out.2⟩
def packI (p : Int × Int) : Int := (p.1 % 4294967296) * 4294967296 + p.2 % 4294967296
def i32 (z : Int) : Int := (z + 2147483648) % 4294967296 - 2147483648
def unpackI (u : Int) : Int × Int := (i32 (u / 4294967296), i32 u)
theorem wrap_u32 (v : Int) : IntKind.u32.wrap v = v % 4294967296 := by simp [IntKind.wrap, IntKind.bits, IntKind.signed]
theorem wrap_u64 (v : Int) : IntKind.u64.wrap v = v % 18446744073709551616 := by simp [IntKind.wrap, IntKind.bits, IntKind.signed]
theorem wrap_i32 (v : Int) : IntKind.i32.wrap v = i32 v := by
  unfold i32
  simp [IntKind.wrap, IntKind.bits, IntKind.signed]
  try omega
theorem or_parts (a b : Nat) (ha : a < 4294967296) (hb : b < 4294967296) : bits .or .u64 ((a : Int) * 4294967296) (b : Int) = (a : Int) * 4294967296 + b := by
  have e1 : ((a : Int) * 4294967296) = U64 (BitVec.ofNat 64 (a * 4294967296)) := by unfold U64; rw [BitVec.toNat_ofNat]; omega
  have e2 : (b : Int) = U64 (BitVec.ofNat 64 b) := by unfold U64; rw [BitVec.toNat_ofNat]; omega
  have e3 : a * 4294967296 ||| b = a * 4294967296 + b := by
    have := Nat.two_pow_add_eq_or_of_lt (i := 32) (b := b) hb a
    rw [show (2 : Nat) ^ 32 = 4294967296 from rfl, Nat.mul_comm] at this
    exact this.symm
  rw [e1, e2, orU64]
  unfold U64
  rw [BitVec.toNat_or, BitVec.toNat_ofNat, BitVec.toNat_ofNat, Nat.mod_eq_of_lt (by omega), Nat.mod_eq_of_lt (by omega), e3]
  rw [Int.natCast_add, Int.natCast_mul]
theorem pack_c (p : Int × Int) (w : World) : Calls Try.prog 13 #[kV p] w fun e w' => e = .returned (.int .u64 (packI p)) ∧ Below w.heap.size w w' := by
  obtain ⟨x, y⟩ := p
  unfold kV
  go_enter Try.func13, Try.ntmps13
  go_wp2_with fail
  go_ret
  refine ⟨?_, Gw.alloc w _⟩
  obtain ⟨a, ha⟩ : ∃ a : Nat, x % 4294967296 = (a : Int) := ⟨(x % 4294967296).toNat, by omega⟩
  obtain ⟨b, hb⟩ : ∃ b : Nat, y % 4294967296 = (b : Int) := ⟨(y % 4294967296).toNat, by omega⟩
  refine congrArg (fun z => Ending.returned (.int .u64 z)) ?_
  show bits .or .u64 (x % 4294967296 * 4294967296) (y % 4294967296) = (x % 4294967296) * 4294967296 + y % 4294967296
  rw [ha, hb]
  exact or_parts a b (by omega) (by omega)
theorem i32_in (z : Int) : wrap64 (i32 z) = i32 z := by
  have h1 : -2147483648 ≤ i32 z := by unfold i32; omega
  have h2 : i32 z ≤ 2147483647 := by unfold i32; omega
  unfold wrap64; omega
theorem unpack_c (u : Int) (w : World) (h0 : 0 ≤ u) (h1 : u < 18446744073709551616) : Calls Try.prog 12 #[.int .u64 u] w fun e w' => e = .returned (kV (unpackI u)) ∧ Below w.heap.size w w' := by
  unfold kV unpackI
  have k1 : ∀ v, IntKind.i32.wrap v = i32 v := wrap_i32
  have k2 : ∀ v, wrap64 (i32 v) = i32 v := i32_in
  go_enter Try.func12, Try.ntmps12
  go_wp2_with fail
  have hb := Bk.new w 23 #[.int .i64 (i32 (u / 4294967296)), .int .i64 (i32 u)]
  rw [k2, k2]
  refine bodyPost_ret (v := .agg #[.int .i64 (i32 (u / 4294967296)), .int .i64 (i32 u)]) ?_ rfl ?_
  · obtain ⟨c0, c1⟩ := hb.two
    simp [results, Try.results12, go_sem, c0, c1]
  · exact ⟨rfl, Gw.alloc w _⟩
end Go.Proofs.Ytgddehhigamkkaa
