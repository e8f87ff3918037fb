/- Texts joined: BitsF SupG DkA DkB DkC DkD DkE DkF. -/
import Derived.Test.YtjcpbhjmmnpjnaaZa5
import Derived.WalkSpells
import Derived.Maps.OwnSet
import Derived.DeepKeys5
import Derived.Carry
import Derived.IntWalk
import Derived.LoopTactic
/- Facts on fields, turns and signs of words, bit by bit. No conditions. -/
namespace Go.Proofs.Ytjcpbhjmmnpjnaa
set_option linter.unusedVariables false
set_option linter.unusedSimpArgs false
theorem field_bit (x : BitVec 64) (at_ n : Int) (h : wB at_ n = true) (i : Nat) : (fieldB x at_ n).getLsbD i = (x.getLsbD (at_.toNat + i) && decide (i < n.toNat)) := by
  obtain ⟨h1, h2, h3, h4, h5⟩ := wB_out h
  unfold fieldB
  rw [if_pos h, BitVec.getLsbD_and, lowB_bit n h3 h4, BitVec.getLsbD_ushiftRight]
theorem with_bit (x : BitVec 64) (at_ n : Int) (v : BitVec 64) (h : wB at_ n = true) (i : Nat) (hi : i < 64) :
    (withB x at_ n v).getLsbD i = if at_.toNat ≤ i ∧ i < at_.toNat + n.toNat then v.getLsbD (i - at_.toNat) else x.getLsbD i := by
  obtain ⟨h1, h2, h3, h4, h5⟩ := wB_out h
  unfold withB
  rw [if_pos h, BitVec.getLsbD_or, BitVec.getLsbD_and, BitVec.getLsbD_not, BitVec.getLsbD_shiftLeft, BitVec.getLsbD_shiftLeft, BitVec.getLsbD_and, lowB_bit n h3 h4]
  by_cases a : at_.toNat ≤ i
  · by_cases b : i < at_.toNat + n.toNat
    · have c : ¬ i < at_.toNat := by omega
      have d : i - at_.toNat < n.toNat := by omega
      simp [hi, a, b, c, d]
    · have c : ¬ i < at_.toNat := by omega
      have d : ¬ i - at_.toNat < n.toNat := by omega
      simp [hi, b, c, d]
  · have c : i < at_.toNat := by omega
    simp [hi, a, c]
theorem field_with (x : BitVec 64) (at_ n : Int) (v : BitVec 64) (h : wB at_ n = true) : fieldB (withB x at_ n v) at_ n = fieldB v 0 n := by
  obtain ⟨h1, h2, h3, h4, h5⟩ := wB_out h
  have h0 : wB 0 n = true := by unfold wB; rw [decide_eq_true_eq]; omega
  apply BitVec.eq_of_getLsbD_eq
  intro i hi
  rw [field_bit _ _ _ h, field_bit _ _ _ h0]
  by_cases hn : i < n.toNat
  · rw [with_bit _ _ _ _ h _ (by omega), if_pos (by omega)]
    simp [show at_.toNat + i - at_.toNat = i from by omega]
  · simp [hn]
theorem with_field (x : BitVec 64) (at_ n : Int) (v : BitVec 64) (h : wB at_ n = true) : withB (withB x at_ n v) at_ n (fieldB x at_ n) = x := by
  obtain ⟨h1, h2, h3, h4, h5⟩ := wB_out h
  apply BitVec.eq_of_getLsbD_eq
  intro i hi
  rw [with_bit _ _ _ _ h _ hi, with_bit _ _ _ _ h _ hi, field_bit _ _ _ h]
  by_cases a : at_.toNat ≤ i ∧ i < at_.toNat + n.toNat
  · have d : i - at_.toNat < n.toNat := by omega
    rw [if_pos a, show at_.toNat + (i - at_.toNat) = i from by omega]; simp [d]
  · rw [if_neg a, if_neg a]
theorem turn_bit (x : BitVec 64) (k : Int) (i : Nat) (hi : i < 64) : (turnB x k).getLsbD i = x.getLsbD (((i : Int) - k) % 64).toNat := by
  unfold turnB
  rw [BitVec.getLsbD_or, BitVec.getLsbD_shiftLeft, BitVec.getLsbD_ushiftRight]
  by_cases a : i < (k % 64).toNat
  · rw [show ((i : Int) - k) % 64 = i + (64 - k % 64) from by omega, show ((i : Int) + (64 - k % 64)).toNat = (64 - k % 64).toNat + i from by omega]
    simp [hi, a]
  · rw [show ((i : Int) - k) % 64 = i - (k % 64) from by omega, show ((i : Int) - (k % 64)).toNat = i - (k % 64).toNat from by omega]
    have b : x.getLsbD ((64 - k % 64).toNat + i) = false := by apply BitVec.getLsbD_of_ge; omega
    simp [hi, a, b]
theorem turn_turn (x : BitVec 64) (a b : Int) : turnB (turnB x a) b = turnB x (a + b) := by
  apply BitVec.eq_of_getLsbD_eq
  intro i hi
  rw [turn_bit _ _ _ hi, turn_bit _ _ _ (by omega), turn_bit _ _ _ hi]
  congr 1
  omega
theorem turn_whole (x : BitVec 64) (k : Int) (h : k % 64 = 0) : turnB x k = x := by
  apply BitVec.eq_of_getLsbD_eq
  intro i hi
  rw [turn_bit _ _ _ hi]
  congr 1
  omega
theorem signB_in (x : BitVec 64) (n : Int) (h1 : 1 ≤ n) (h2 : n ≤ 64) (i : Nat) (hi : i < 64) : (signB x n).getLsbD i = x.getLsbD (min i (n.toNat - 1)) := by
  unfold signB; rw [if_pos ⟨h1, h2⟩, signV_bit x n h1 h2 i hi]
theorem signB_signB (x : BitVec 64) (a b : Int) (h1 : 1 ≤ b) (h2 : b ≤ a) (h3 : a ≤ 64) : signB (signB x a) b = signB x b := by
  apply BitVec.eq_of_getLsbD_eq
  intro i hi
  rw [signB_in _ _ h1 (by omega) _ hi, signB_in _ _ (by omega) h3 _ (by omega), signB_in _ _ h1 (by omega) _ hi]
  congr 1
  omega
theorem signB_fits (x : BitVec 64) (a b : Int) (h1 : 1 ≤ b) (h2 : b ≤ a) (h3 : a ≤ 64) (h : signB x b = x) : signB x a = x := by
  rw [← h]
  apply BitVec.eq_of_getLsbD_eq
  intro i hi
  rw [signB_in _ _ (by omega) h3 _ hi, signB_in _ _ h1 (by omega) _ (by omega), signB_in _ _ h1 (by omega) _ hi]
  congr 1
  omega
theorem signB_64 (x : BitVec 64) : signB x 64 = x := by
  apply BitVec.eq_of_getLsbD_eq
  intro i hi
  rw [signB_in _ _ (by decide) (by decide) _ hi]
  congr 1
  omega
theorem signB_out (x : BitVec 64) (n : Int) (h : ¬ (1 ≤ n ∧ n ≤ 64)) : signB x n = 0 := if_neg h
theorem signB_range (x : BitVec 64) (n : Int) (h1 : 1 ≤ n) (h2 : n ≤ 63) : -(2 ^ (n - 1).toNat) ≤ I64 (signB x n) ∧ I64 (signB x n) < 2 ^ (n - 1).toNat := by
  rw [← signB_val x n h1 (by omega)]
  have hlo := I64_lo (x <<< (64 - n).toNat)
  have hhi := I64_hi (x <<< (64 - n).toNat)
  have e : (2 : Int) ^ (n - 1).toNat * 2 ^ (64 - n).toNat = 9223372036854775808 := by
    rw [← Int.pow_add, show (n - 1).toNat + (64 - n).toNat = 63 from by omega]; decide
  have hp : (0 : Int) < 2 ^ (64 - n).toNat := Int.pow_pos (by decide)
  constructor
  · apply Int.le_ediv_of_mul_le hp
    rw [Int.neg_mul, e]; exact hlo
  · apply Int.ediv_lt_of_lt_mul hp
    rw [e]; omega
theorem merge_with (w : BitVec 64) (c : Int) (h1 : 1 ≤ c) (h2 : c ≤ 63) : withB (fieldB w 0 c) c (64 - c) (fieldB w c (64 - c)) = w := by
  have a1 : wB 0 c = true := by unfold wB; rw [decide_eq_true_eq]; omega
  have a2 : wB c (64 - c) = true := by unfold wB; rw [decide_eq_true_eq]; omega
  apply BitVec.eq_of_getLsbD_eq
  intro i hi
  rw [with_bit _ _ _ _ a2 _ hi, field_bit _ _ _ a1, field_bit _ _ _ a2]
  by_cases b : i < c.toNat
  · rw [if_neg (by omega)]; simp [b]
  · have d : i - c.toNat < (64 - c).toNat := by omega
    rw [if_pos (by omega), show c.toNat + (i - c.toNat) = i from by omega]; simp [d]
theorem merge_or (w : BitVec 64) (c : Int) (h1 : 1 ≤ c) (h2 : c ≤ 63) : fieldB w 0 c ||| (fieldB w c (64 - c) <<< c.toNat) = w := by
  have a1 : wB 0 c = true := by unfold wB; rw [decide_eq_true_eq]; omega
  have a2 : wB c (64 - c) = true := by unfold wB; rw [decide_eq_true_eq]; omega
  apply BitVec.eq_of_getLsbD_eq
  intro i hi
  rw [BitVec.getLsbD_or, BitVec.getLsbD_shiftLeft, field_bit _ _ _ a1, field_bit _ _ _ a2]
  by_cases b : i < c.toNat
  · simp [b, hi]
  · have d : i - c.toNat < (64 - c).toNat := by omega
    rw [show c.toNat + (i - c.toNat) = i from by omega]; simp [b, d, hi]
theorem merge_turn (w : BitVec 64) (c : Int) (h1 : 1 ≤ c) (h2 : c ≤ 63) : turnB w (64 - c) = fieldB w c (64 - c) ||| (fieldB w 0 c <<< (64 - c).toNat) := by
  have a1 : wB 0 c = true := by unfold wB; rw [decide_eq_true_eq]; omega
  have a2 : wB c (64 - c) = true := by unfold wB; rw [decide_eq_true_eq]; omega
  apply BitVec.eq_of_getLsbD_eq
  intro i hi
  rw [turn_bit _ _ _ hi, BitVec.getLsbD_or, BitVec.getLsbD_shiftLeft, field_bit _ _ _ a1, field_bit _ _ _ a2]
  by_cases b : i < (64 - c).toNat
  · rw [show (((i : Int) - (64 - c)) % 64).toNat = c.toNat + i from by omega]; simp [b]
  · have d : i - (64 - c).toNat < c.toNat := by omega
    rw [show (((i : Int) - (64 - c)) % 64).toNat = i - (64 - c).toNat from by omega]; simp [b, d, hi]
end Go.Proofs.Ytjcpbhjmmnpjnaa
/- What loamlaw6.known and the small functions of sup answer. No conditions. -/
namespace Go.Proofs.Ytjcpbhjmmnpjnaa
set_option linter.unusedVariables false
set_option linter.unusedSimpArgs false
open Go.RowKit
set_option maxRecDepth 100000
set_option maxHeartbeats 800000
theorem right_nil (w : World) : Calls Try.prog 45 #[.slice none 0 0] w (RetP (.bool false) w) := by
  go_enter Try.func45, Try.ntmps45
  go_wp2_with fail
  go_ret
  exact ⟨rfl, Below.refl _ _⟩
theorem dec6_nil (w : World) : Calls Try.prog 27 #[.slice none 0 0] w (RetP (.tuple #[blkV 0#64 0 0 0 0 0 0#64, .int .i64 2]) w) := by
  have hz : U64 0#64 = 0 := by decide +kernel
  unfold blkV
  rw [hz]
  clear hz
  have HR := Lib.hid (fun W => right_nil W)
  have HZ := Lib.hid (show Bk ((w.alloc (.cells #[.slice none 0 0] 22)).alloc (.cells zero7 32)) (w.heap.size + 1) 32 zero7 ∧ Below w.heap.size w ((w.alloc (.cells #[.slice none 0 0] 22)).alloc (.cells zero7 32)) from by
    refine ⟨?_, (Gw.alloc w _).trans ((Gw.alloc _ _).mono (by simp))⟩
    have q := Bk.new (w.alloc (.cells #[.slice none 0 0] 22)) 32 zero7
    simpa using q)
  unfold zero7 at HZ
  go_enter Try.func27, Try.ntmps27
  go_wp2_with fail
  refine Calls.mono (HR.out _) ?_
  rintro e w1 ⟨rfl, b1⟩
  have HZ1 := Lib.hid (HZ.out.1.below b1 HZ.out.1.lt)
  have HB1 := Lib.hid (HZ.out.2.trans (b1.mono HZ.out.2.size))
  obtain ⟨r0, r1, r2, r3, r4, r5, r6⟩ := HZ1.out.seven
  have z0 := HZ1.out.free 0
  have z1 := HZ1.out.free 1
  have z2 := HZ1.out.free 2
  have z3 := HZ1.out.free 3
  have z4 := HZ1.out.free 4
  have z5 := HZ1.out.free 5
  have z6 := HZ1.out.free 6
  have ll := HZ1.out.lt
  have HR7 := Lib.hid (((((((HZ1.out.set 0 (.int .u64 0)).set 1 (.int .i64 0)).set 2 (.int .i64 0)).set 3 (.int .i64 0)).set 4 (.int .i64 0)).set 5 (.int .i64 0)).set 6 (.int .u64 0))
  have HB7 := Lib.hid (((((((HB1.out.setCell (p := ⟨w.heap.size + 1, 0, none⟩) (by simp) (.int .u64 0)).setCell (p := ⟨w.heap.size + 1, 1, none⟩) (by simp) (.int .i64 0)).setCell (p := ⟨w.heap.size + 1, 2, none⟩) (by simp) (.int .i64 0)).setCell (p := ⟨w.heap.size + 1, 3, none⟩) (by simp) (.int .i64 0)).setCell (p := ⟨w.heap.size + 1, 4, none⟩) (by simp) (.int .i64 0)).setCell (p := ⟨w.heap.size + 1, 5, none⟩) (by simp) (.int .i64 0)).setCell (p := ⟨w.heap.size + 1, 6, none⟩) (by simp) (.int .u64 0))
  clear b1 HZ HR
  go_wp2_with fail
  obtain ⟨t0, t1, t2, t3, t4, t5, t6⟩ := HR7.out.seven
  refine bodyPost_ret (v := .tuple #[.agg #[.int .u64 0, .int .i64 0, .int .i64 0, .int .i64 0, .int .i64 0, .int .i64 0, .int .u64 0], .int .i64 2]) (by simp [results, Try.results27, go_sem, t0, t1, t2, t3, t4, t5, t6]) rfl ?_
  exact ⟨rfl, HB7.out⟩
theorem newer_c (ep ep2 : BitVec 64) (s l n sp wd s2 l2 n2 sp2 wd2 : Int) (lg lg2 : BitVec 64) (w : World) : Calls Try.prog 29 #[blkV ep s l n sp wd lg, blkV ep2 s2 l2 n2 sp2 wd2 lg2] w (RetP (.bool (decide (U64 ep2 < U64 ep))) w) := by
  unfold blkV
  go_enter Try.func29, Try.ntmps29
  go_wp2_with fail
  go_ret
  exact ⟨rfl, (by repeat (first | with_reducible assumption | with_reducible exact Below.refl _ _ | with_reducible apply bdN | with_reducible apply Below.drew | with_reducible refine Below.alloc ?_ (by simp) _ | with_reducible refine Below.setCell ?_ (by simp) _))⟩
theorem slot_c (x : BitVec 64) (w : World) : Calls Try.prog 19 #[.int .u64 (U64 x)] w fun e w' => e = .returned (.int .i64 (U64 (x &&& 1#64))) ∧ w' = w := by
  have e1 : bits .and .u64 (U64 x) 1 = U64 (x &&& 1#64) := by rw [show (1 : Int) = U64 1#64 from by decide +kernel, andU64]
  have h1 : U64 (x &&& 1#64) = 0 ∨ U64 (x &&& 1#64) = 1 := by
    unfold U64
    rw [BitVec.toNat_and, show (1#64).toNat = 2 ^ 1 - 1 from rfl, Nat.and_two_pow_sub_one_eq_mod]
    omega
  have p1 : (0 : Int) ≤ U64 (x &&& 1#64) := by omega
  have p2 : U64 (x &&& 1#64) ≤ 1 := by omega
  obtain ⟨y, hy⟩ : ∃ y, y = U64 (x &&& 1#64) := ⟨_, rfl⟩
  rw [← hy] at e1 p1 p2 ⊢
  clear h1 hy
  go_enter Try.func19, Try.ntmps19
  go_wp2_with fail
  go_ret
  exact ⟨rfl, rfl⟩
theorem magicB (ep : BitVec 64) (s l n sp wd : Nat) (lg : BitVec 64) : (encSB ep s l n sp wd lg).take 4 = [76#8, 79#8, 65#8, 77#8] := by
  obtain ⟨R, hR⟩ := headB_split ep s l n sp wd lg 0 _ 4 rfl
  unfold encSB sealC secB
  rw [hR, show headB ep s l n sp wd lg 0 = [] from rfl, List.nil_append, List.append_assoc, List.append_assoc, List.take_left' (lowN_len _ 4)]
  decide +kernel
theorem encSB_len (ep : BitVec 64) (s l n sp wd : Nat) (lg : BitVec 64) (h : 64 ≤ s) : (encSB ep s l n sp wd lg).length = s := by
  have := secB_len ep s l n sp wd lg h
  unfold encSB sealC
  rw [List.length_append, this, show (tailL (addC 0 (secB ep s l n sp wd lg))).length = 4 from rfl]
  omega
end Go.Proofs.Ytjcpbhjmmnpjnaa
/- A map from places to numbers as a function; frames of calls that turn some blocks. No conditions. -/
namespace Go.Proofs.Ytjcpbhjmmnpjnaa
set_option linter.unusedVariables false
set_option linter.unusedSimpArgs false
open Go.RowKit Go.Maps
set_option maxRecDepth 100000
/-- All blocks but those of S are as they were. -/
structure Kept (S : Nat → Prop) (w w' : World) : Prop where
  os : w'.os = w.os
  tape : w'.tape = w.tape
  output : w'.output = w.output
  size : w.heap.size ≤ w'.heap.size
  block : ∀ k, k < w.heap.size → ¬ S k → w'.heap[k]? = w.heap[k]?
section
variable {S S' : Nat → Prop} {w w' w'' : World}
theorem Kept.refl (S : Nat → Prop) (w : World) : Kept S w w := ⟨rfl, rfl, rfl, Nat.le_refl _, fun _ _ _ => rfl⟩
theorem Kept.trans (h : Kept S w w') (k : Kept S w' w'') : Kept S w w'' :=
  ⟨k.os.trans h.os, k.tape.trans h.tape, k.output.trans h.output, Nat.le_trans h.size k.size, fun i hi hS => (k.block i (Nat.lt_of_lt_of_le hi h.size) hS).trans (h.block i hi hS)⟩
theorem Kept.more (h : Kept S w w') (hS : ∀ k, S k → S' k) : Kept S' w w' := ⟨h.os, h.tape, h.output, h.size, fun i hi hn => h.block i hi (fun hs => hn (hS i hs))⟩
theorem Kept.of_below (h : Below w.heap.size w w') (S : Nat → Prop) : Kept S w w' := ⟨h.os, h.tape, h.output, h.size, fun i hi _ => h.block i hi⟩
theorem Kept.below {B : Nat} (h : Kept S w w') (hB : B ≤ w.heap.size) (hS : ∀ k, S k → B ≤ k) : Below B w w' := ⟨h.os, h.tape, h.output, h.size, fun i hi => h.block i (by omega) (fun hs => by have := hS i hs; omega)⟩
theorem Kept.grown {row : Option Nat} (h : w.grownBy w' row) : Kept (fun k => row = some k) w w' := ⟨h.os, h.tape, h.output, h.size, fun i hi hn => h.block i hi (fun e => hn e.symm)⟩
theorem Kept.set (w : World) (g i : Nat) (u : Value) : Kept (fun k => k = g) w (w.setCell ⟨g, i, none⟩ u) := ⟨rfl, rfl, rfl, by simp [World.setCell], fun k _ hn => Below.heap_setCell _ _ _ _ hn⟩
theorem Kept.alloc (S : Nat → Prop) (w : World) (o : Obj) : Kept S w (w.alloc o) := Kept.of_below (Gw.alloc w o) S
theorem Kept.bk {g : Nat} {E : TypeId} {cs : Array Value} (h : Kept S w w') (hb : Bk w g E cs) (hn : ¬ S g) : Bk w' g E cs := (h.block g hb.lt hn).trans hb
theorem Kept.cell (h : Kept S w w') {p : Addr} (hp : p.block < w.heap.size) (hn : ¬ S p.block) : w'.cell? p = w.cell? p := World.cell?_of_block (w := w) (h.block p.block hp hn)
theorem Kept.rd {α : Type} {f : α → Value} {A : Option Addr} {xs : List α} (h : Kept S w w') (hr : Rd f w w.heap.size A xs) (hn : ∀ a, A = some a → ¬ S a.block) : Rd f w' w'.heap.size A xs := fun j hj => by
  obtain ⟨ad, e, hb, hc⟩ := hr j hj
  exact ⟨ad, e, Nat.lt_of_lt_of_le hb h.size, (h.cell (p := ad.add j) (by rw [add_block]; exact hb) (by rw [add_block]; exact hn ad e)).trans hc⟩
theorem Kept.row {E : TypeId} {K base n : Nat} {v : Value} {xs : List Value} (h : Kept S w w') (ho : w.ownsRow base E K v n xs) (hn : ∀ k, v.ownBlock = some k → ¬ S k) : w'.ownsRow base E K v n xs := by
  obtain ⟨h1, h2⟩ := ho
  refine ⟨h1, ?_⟩
  rcases h2 with h2 | ⟨g, cap, cur, e, hg, hh, r⟩
  · exact .inl h2
  · refine .inr ⟨g, cap, cur, e, hg, ?_, r⟩
    have hl : g < w.heap.size := (Array.getElem?_eq_some_iff.1 hh).1
    rw [h.block g hl (hn g (by rw [e]; rfl))]; exact hh
theorem Kept.ow {α : Type} {f : α → Value} {E : TypeId} {base : Nat} {v : Value} {xs : List α} (h : Kept S w w') (ho : Ow f E w base v xs) (hn : ∀ k, v.ownBlock = some k → ¬ S k) : Ow f E w' base v xs := h.row ho hn
theorem Kept.map {P : Program} {k : TypeId} {H : Type} {R : Value → Option (DataW H × List MemPlace)} {b n : Nat} {D : DataW H} (h : Kept S w w') (ho : w.ownsMap P k R b n D) (hn : ¬ S b) : w'.ownsMap P k R b n D := by
  have hl := ho.lt
  obtain ⟨es, clock, hb, r⟩ := ho
  exact ⟨es, clock, (h.block b hl hn).trans hb, r⟩
end
theorem zeroI (w : World) : (zeroValue 3).run Try.prog w = .ok (.int .i64 0) w := by kernel_rfl
theorem wfI {n : Int} (h1 : -9223372036854775808 ≤ n) (h2 : n ≤ 9223372036854775807) : (Lit.int .i64 n).wf = true := by
  simp [Lit.wf, IntKind.min, IntKind.max, IntKind.signed, IntKind.bits]; omega
theorem laidA : laidOutB Try.prog = true := by kernel_rfl
theorem lawP : Keyed Try.prog 87 := Keyed.of_law (deep_law_gate laidA (of_decide_eq_true (by kernel_rfl)) (of_decide_eq_true (by kernel_rfl)) (by kernel_rfl) (by kernel_rfl))
def dplV (s : Int) : Value := .agg #[.int .i64 s]
theorem keyP {s : Int} (h : (Lit.int .i64 s).wf = true) : keyOf Try.prog 87 (dplV s) = some (.string (keyBytes [.int .i64 s])) := by
  obtain ⟨m, hm⟩ : ∃ m, Try.prog.types.size + 1 = m + 2 := ⟨Try.prog.types.size - 1, by kernel_rfl⟩
  have hk : Try.prog.keyType 87 = true := by kernel_rfl
  have hf : (dplV s).formed Try.prog 87 = true := by
    unfold dplV Value.formed
    rw [Try.underlying87]
    kernel_rfl
  unfold keyOf
  rw [Try.underlying87]
  simp only [hk, hf, Bool.and_self, if_true]
  rw [hm]
  have e : Try.prog.keyLits (m + 2) 87 (dplV s).cells.toList = some [.int .i64 s] := by
    unfold Program.keyLits
    rw [Try.underlying87]
    have hc : (dplV s).cells.toList = [.int .i64 s] := rfl
    rw [hc]
    simp only
    have hc1 : Try.prog.cellsOf 87 = 1 := by kernel_rfl
    rw [if_pos (by rw [hc1]; simp)]
    have hc3 : Try.prog.cellsOf 3 = 1 := by kernel_rfl
    have e3 : Try.prog.keyLits (m + 1) 3 [.int .i64 s] = some [.int .i64 s] := by
      unfold Program.keyLits
      rw [Try.underlying3]
      simp [h]
    simp [hc3, e3]
  rw [e]
  rfl
def keyL (s : Int) : Lit := .string (keyBytes [.int .i64 s])
theorem keyL_inj {s t : Int} (hs : (Lit.int .i64 s).wf = true) (ht : (Lit.int .i64 t).wf = true) (h : keyL s = keyL t) : s = t := by
  have h1 := keyP hs
  have h2 := keyP ht
  rw [show (Lit.string (keyBytes [.int .i64 s])) = .string (keyBytes [.int .i64 t]) from h] at h1
  have := lawP.inj h1 h2
  simpa [dplV] using this
/-- Block b is a map from places to the numbers of f. -/
def MapFn (w : World) (b n : Nat) (f : Int → Int) : Prop := ∃ D : DataW Unit, w.ownsMap Try.prog 87 (plainElem Try.prog 3) b n D ∧ ∀ s, (Lit.int .i64 s).wf = true → D.atKey (keyL s) (.lit (.int .i64 0)) = .lit (.int .i64 (f s))
section
variable {w w' : World} {b n : Nat} {f : Int → Int}
theorem MapFn.lt (h : MapFn w b n f) : b < w.heap.size := by obtain ⟨D, h, _⟩ := h; exact h.lt
theorem MapFn.kept {S : Nat → Prop} (h : MapFn w b n f) (hk : Kept S w w') (hn : ¬ S b) : MapFn w' b n f := by
  obtain ⟨D, h1, h2⟩ := h
  exact ⟨D, hk.map h1 hn, h2⟩
theorem Kept.map_fn {S : Nat → Prop} (hk : Kept S w w') (h : MapFn w b n f) (hn : ¬ S b) : MapFn w' b n f := h.kept hk hn
theorem MapFn.mono (h : MapFn w b n f) {m : Nat} (hm : n ≤ m) : MapFn w b m f := by
  obtain ⟨D, h1, h2⟩ := h
  exact ⟨D, h1.mono hm, h2⟩
theorem MapFn.made (w : World) : MapFn (w.alloc (.map #[] 0)) w.heap.size 0 (fun _ => 0) :=
  ⟨.map [], World.ownsMap_made _ _ _ _, fun s _ => rfl⟩
theorem MapFn.look (h : MapFn w b n f) {s : Int} (hs : (Lit.int .i64 s).wf = true) : (Instr.lookup 76 (.map (some b)) (.agg #[.int .i64 s]) false).run Try.prog w = .ok (.int .i64 (f s)) w := by
  obtain ⟨D, h1, h2⟩ := h
  obtain ⟨c, hrun, hat, _⟩ := World.ownsMap.lookup_int h1 lawP Try.underlying76 Try.underlying3 (zeroI w) (keyP hs)
  have e : DataW.lit (H := Unit) (.int .i64 (f s)) = .lit (.int .i64 c) := (h2 s hs).symm.trans hat
  injection e with e
  injection e with _ e
  rw [e]; exact hrun
theorem MapFn.put (h : MapFn w b n f) {s v : Int} (hs : (Lit.int .i64 s).wf = true) (hv : (Lit.int .i64 v).wf = true) (hn : n < maxLen) :
    ∃ w', (Instr.mapUpdate 76 (.map (some b)) (.agg #[.int .i64 s]) (.int .i64 v)).run Try.prog w = .ok () w' ∧ MapFn w' b (n + 1) (fun x => if x = s then v else f x) ∧ Kept (fun c => some b = some c) w w' := by
  obtain ⟨D, h1, h2⟩ := h
  obtain ⟨w', hrun, ho, hg⟩ := World.ownsMap.update h1 lawP Try.underlying76 hn (keyP hs) (plainElem_int (H := Unit) Try.underlying3 hv)
  refine ⟨w', hrun, ⟨_, ho, fun x hx => ?_⟩, Kept.grown hg⟩
  show _ = DataW.lit (Lit.int .i64 (if x = s then v else f x))
  by_cases e : x = s
  · subst e
    rw [if_pos rfl]
    exact atKey_put_same h1.isMap (by trivial) _ _
  · rw [if_neg e]
    exact (atKey_put_other (fun k => e (keyL_inj hx hs k)) _ _).trans (h2 x hx)
theorem MapFn.clear (h : MapFn w b n f) (ty : TypeId) :
    ∃ w', (Builtin.clear_ #[76] ty #[.map (some b)]).run Try.prog w = .ok (.tuple #[]) w' ∧ MapFn w' b 0 (fun _ => 0) ∧ Kept (fun c => some b = some c) w w' := by
  obtain ⟨D, h1, h2⟩ := h
  obtain ⟨es, clock, hb, F, _, _⟩ := h1
  refine ⟨Go.ChangeMaps.setBlock w b (.map #[] clock), ?_, ⟨.map [], ⟨#[], clock, Go.ChangeMaps.heap_setBlock_same hb _, ⟨by simp, Go.MapKept.stamped_empty clock, by simp⟩, Nat.le_refl _, rfl⟩, fun s _ => rfl⟩, ?_⟩
  · simp [Builtin.clear_, run_underlying Try.underlying76, MapKept.run_getObj_map hb, MapKept.run_setObj_map _ hb, Result.andThen, Go.ChangeMaps.setBlock]
  · exact ⟨rfl, rfl, rfl, by simp [Go.ChangeMaps.setBlock], fun i _ hi => Go.ChangeMaps.heap_setBlock_other hb _ (fun e => hi (by rw [e]))⟩
end
section
variable {w : World} {b n : Nat} {f : Int → Int} {ops : Array Oper} {rest : List Oper} {o : Oper} {a : Act} {Q : Exit → Act → World → Prop}
theorem wp_clear_fn (hg : o.guard = none) (m : Operand) (hop : o.op = Op.call { callee := Callee.builtin Builtin.clear, args := #[m], argTypes := #[76] })
    (hm : a.eval m = .map (some b)) (h : MapFn w b n f)
    (hK : ∀ w', MapFn w' b 0 (fun _ => 0) → Kept (fun c => some b = some c) w w' → wpList Try.prog ops Q rest (a.put o.dst (.tuple #[])) w') : wpList Try.prog ops Q (o :: rest) a w := by
  refine wpList_plain hg fun K' hK' => ?_
  obtain ⟨w', hrun, r1, r2⟩ := h.clear o.type
  unfold Oper.wp execOp
  simp only [hop, resolve, invoke, builtin, Sem.run_bind, Sem.run_pure, Result.andThen_ok, List.map_toArray, List.map_cons, List.map_nil, hm, hrun]
  exact hK' _ _ (hK w' r1 r2)
theorem wp_put_fn (hg : o.guard = none) (m x v : Operand) (hop : o.op = Op.mapUpdate 76 m x v)
    (hm : a.eval m = .map (some b)) (h : MapFn w b n f) (s z : Int) (hx : a.eval x = .agg #[.int .i64 s]) (hv : a.eval v = .int .i64 z) (hs : (Lit.int .i64 s).wf = true) (hz : (Lit.int .i64 z).wf = true) (hl : n ≤ 1000000)
    (hK : ∀ w', MapFn w' b (n + 1) (fun x => if x = s then z else f x) → Kept (fun c => some b = some c) w w' → wpList Try.prog ops Q rest (a.put o.dst undef) w') : wpList Try.prog ops Q (o :: rest) a w := by
  refine wpList_plain hg fun K' hK' => ?_
  obtain ⟨w', hrun, r1, r2⟩ := h.put hs hz (by unfold maxLen; omega)
  unfold Oper.wp
  simp [execOp, hop, hm, hx, hv, hrun, Result.andThen]
  exact hK' _ _ (hK w' r1 r2)
end
end Go.Proofs.Ytjcpbhjmmnpjnaa
/- A disk as lists: what it is. Conditions: lengths. -/
namespace Go.Proofs.Ytjcpbhjmmnpjnaa
set_option linter.unusedVariables false
set_option linter.unusedSimpArgs false
open Go.RowKit Go.Maps
def boV (b : Bool) : Value := .bool b
theorem boV_one (x : Bool) : (boV x).oneCell' = true := rfl
abbrev PW := Nat × List (BitVec 8)
/-- The newest pending write of a place, from 1 on; 0: there is none. -/
def newG : List PW → Nat → Int → Int → Int
  | [], _, r, _ => r
  | p :: l, i, r, x => newG l (i + 1) (if x = (p.1 : Int) then ((i + 1 : Nat) : Int) else r) x
def newF (L : List PW) (x : Int) : Int := newG L 0 0 x
theorem newG_snoc (L : List PW) (p : PW) : ∀ (i : Nat) (r x : Int), newG (L ++ [p]) i r x = if x = (p.1 : Int) then ((i + L.length + 1 : Nat) : Int) else newG L i r x := by
  induction L with
  | nil => intro i r x; simp [newG]
  | cons q l ih =>
    intro i r x
    rw [List.cons_append, newG, ih]
    simp only [newG, List.length_cons]
    split
    · congr 1; omega
    · rfl
theorem newF_snoc (L : List PW) (p : PW) : newF (L ++ [p]) = fun x => if x = (p.1 : Int) then ((L.length + 1 : Nat) : Int) else newF L x := by
  funext x
  unfold newF
  rw [newG_snoc]
  simp only [Nat.zero_add]
theorem newG_at (L : List PW) : ∀ (i : Nat) (r x : Int), newG L i r x = r ∨ ∃ j, ∃ h : j < L.length, newG L i r x = ((i + j + 1 : Nat) : Int) ∧ (L[j].1 : Int) = x := by
  induction L with
  | nil => intro i r x; exact .inl rfl
  | cons q l ih =>
    intro i r x
    rw [newG]
    rcases ih (i + 1) (if x = (q.1 : Int) then ((i + 1 : Nat) : Int) else r) x with h | ⟨j, hj, h1, h2⟩
    · rw [h]
      by_cases e : x = (q.1 : Int)
      · rw [if_pos e]
        exact .inr ⟨0, by simp, by simp, e.symm⟩
      · rw [if_neg e]; exact .inl rfl
    · exact .inr ⟨j + 1, by simpa using hj, by rw [h1]; congr 1; omega, by simpa using h2⟩
theorem newF_at (L : List PW) (x : Int) : newF L x = 0 ∨ ∃ j, ∃ h : j < L.length, newF L x = (j : Int) + 1 ∧ (L[j].1 : Int) = x := by
  rcases newG_at L 0 0 x with h | ⟨j, hj, h1, h2⟩
  · exact .inl h
  · exact .inr ⟨j, hj, by unfold newF; rw [h1]; omega, h2⟩
structure DK where
  size : Nat
  secs : Nat
  kept : List (BitVec 8)
  pend : List PW
  off : Bool
  armed : Nat
  keep : List Bool
  writes : Nat
structure DX where
  kb : Nat
  kc : Nat
  pA : Option Addr
  pc : Nat
  mb : Nat
  eA : Option Addr
  ec : Nat
  D : Nat → Prop
def pcells (p : PW × (Option Addr × Nat)) : List Value := [.int .i64 p.1.1, .slice p.2.1 p.1.2.length p.2.2]
/-- A row of pending writes. -/
def PRow (W : World) (v : Value) (L : List PW) (D : Nat → Prop) : Prop := ∃ ds : List (Option Addr × Nat), ds.length = L.length ∧ W.ownsRow 0 89 2 v L.length ((L.zip ds).flatMap pcells) ∧
  ∀ q ∈ L.zip ds, Rd b8 W W.heap.size q.2.1 q.1.2 ∧ q.1.2.length ≤ q.2.2 ∧ ∀ a, q.2.1 = some a → D a.block
structure DiskAt (W : World) (g : Nat) (x : DX) (d : DK) : Prop where
  blk : Bk W g 78 #[.int .i64 d.size, .slice (some ⟨x.kb, 0, none⟩) d.kept.length x.kc, .slice x.pA d.pend.length x.pc, .map (some x.mb), .bool d.off, .int .i64 d.armed, .slice x.eA d.keep.length x.ec, .int .i64 d.writes]
  kept : Ow b8 5 W 0 (.slice (some ⟨x.kb, 0, none⟩) d.kept.length x.kc) d.kept
  pend : PRow W (.slice x.pA d.pend.length x.pc) d.pend x.D
  map : MapFn W x.mb d.pend.length (newF d.pend)
  keep : Rd boV W W.heap.size x.eA d.keep
  keepD : ∀ a, x.eA = some a → x.D a.block
  Dlt : ∀ k, x.D k → k < W.heap.size
  n1 : x.kb ≠ g
  n2 : x.mb ≠ g
  n3 : x.mb ≠ x.kb
  n4 : ∀ a, x.pA = some a → a.block ≠ g ∧ a.block ≠ x.kb ∧ a.block ≠ x.mb
  n5 : ∀ k, x.D k → k ≠ g ∧ k ≠ x.kb ∧ k ≠ x.mb ∧ ∀ a, x.pA = some a → k ≠ a.block
  sz : 64 ≤ d.size ∧ d.size ≤ 1024
  sc : 1 ≤ d.secs ∧ d.secs ≤ 16384
  kl : d.kept.length = d.secs * d.size
  pl : ∀ p ∈ d.pend, p.1 < d.secs ∧ p.2.length = d.size
  lim : d.pend.length ≤ 100000 ∧ d.writes ≤ 1000000 ∧ d.armed ≤ 9223372036854775807 ∧ d.keep.length ≤ 100000 ∧ d.keep.length ≤ x.ec
/-- The blocks that a disk's methods may turn. -/
def Md (g : Nat) (x : DX) (k : Nat) : Prop := k = g ∨ k = x.kb ∨ k = x.mb ∨ ∃ a, x.pA = some a ∧ k = a.block
def NextX (g : Nat) (w : World) (x x' : DX) : Prop := ∀ k, (Md g x' k ∨ x'.D k) → (Md g x k ∨ x.D k) ∨ w.heap.size ≤ k
theorem NextX.refl (g : Nat) (w : World) (x : DX) : NextX g w x x := fun k h => .inl h
/-- A disk in block g, of blocks from B on that are none of X. -/
def DiskX (B : Nat) (X : Nat → Prop) (W : World) (g : Nat) (d : DK) : Prop := ∃ x, DiskAt W g x d ∧ ∀ k, (Md g x k ∨ x.D k) → B ≤ k ∧ ¬ X k
section
variable {W W' w w' : World} {g : Nat} {x x' : DX} {d d' : DK} {S : Nat → Prop}
theorem Bk.eight {w : World} {g : Nat} {E : TypeId} {a b c d e f h i : Value} (k : Bk w g E #[a, b, c, d, e, f, h, i]) :
    w.cell? ⟨g, 0, none⟩ = some a ∧ w.cell? ⟨g, 1, none⟩ = some b ∧ w.cell? ⟨g, 2, none⟩ = some c ∧ w.cell? ⟨g, 3, none⟩ = some d ∧ w.cell? ⟨g, 4, none⟩ = some e ∧ w.cell? ⟨g, 5, none⟩ = some f ∧ w.cell? ⟨g, 6, none⟩ = some h ∧ w.cell? ⟨g, 7, none⟩ = some i :=
  ⟨k.cell 0, k.cell 1, k.cell 2, k.cell 3, k.cell 4, k.cell 5, k.cell 6, k.cell 7⟩
theorem PRow.lt {v : Value} {L : List PW} {D : Nat → Prop} (h : PRow W v L D) : ∀ k, v.ownBlock = some k → k < W.heap.size := by
  obtain ⟨ds, h1, h2, h3⟩ := h
  exact fun k hk => (World.ownsRow.lt h2 k hk).2
theorem PRow.addr {A : Option Addr} {n c : Nat} {L : List PW} {D : Nat → Prop} (h : PRow W (.slice A n c) L D) : (A = none ∧ L = []) ∨ ∃ q, A = some ⟨q, 0, none⟩ ∧ q < W.heap.size := by
  obtain ⟨ds, h1, h2, h3⟩ := h
  rcases h2.2 with ⟨e, hn⟩ | ⟨q, cap, cur, e, _, hh, _⟩
  · injection e with e1 e2 e3
    exact .inl ⟨e1, List.eq_nil_of_length_eq_zero hn⟩
  · injection e with e1 e2 e3
    exact .inr ⟨q, e1, (Array.getElem?_eq_some_iff.1 hh).1⟩
theorem PRow.kept {v : Value} {L : List PW} {D : Nat → Prop} (h : PRow W v L D) (hk : Kept S W W') (hv : ∀ k, v.ownBlock = some k → ¬ S k) (hD : ∀ k, D k → ¬ S k) : PRow W' v L D := by
  obtain ⟨ds, h1, h2, h3⟩ := h
  exact ⟨ds, h1, hk.row h2 hv, fun q hq => ⟨hk.rd (h3 q hq).1 (fun a e => hD _ ((h3 q hq).2.2 a e)), (h3 q hq).2⟩⟩
theorem own_slice {A : Option Addr} {n c k : Nat} (h : (Value.slice A n c).ownBlock = some k) : ∃ a, A = some a ∧ k = a.block := by
  unfold Value.ownBlock at h
  cases A with
  | none => cases h
  | some a => simp at h; exact ⟨a, rfl, h.symm⟩
theorem DiskAt.kept_ (h : DiskAt W g x d) (hk : Kept S W W') (h1 : ¬ S g) (h2 : ¬ S x.kb) (h3 : ¬ S x.mb) (h4 : ∀ a, x.pA = some a → ¬ S a.block) (h5 : ∀ k, x.D k → ¬ S k) : DiskAt W' g x d :=
  ⟨hk.bk h.blk h1, hk.ow h.kept (fun k e => by obtain ⟨a, e1, rfl⟩ := own_slice e; injection e1 with e1; subst e1; exact h2), h.pend.kept hk (fun k e => by obtain ⟨a, e1, rfl⟩ := own_slice e; exact h4 a e1) h5,
   h.map.kept hk h3, hk.rd h.keep (fun a e => h5 _ (h.keepD a e)), h.keepD, fun k e => Nat.lt_of_lt_of_le (h.Dlt k e) hk.size, h.n1, h.n2, h.n3, h.n4, h.n5, h.sz, h.sc, h.kl, h.pl, h.lim⟩
theorem DiskAt.below (h : DiskAt W g x d) (hb : Below W.heap.size W W') : DiskAt W' g x d :=
  h.kept_ (Kept.of_below hb (fun _ => False)) (fun h => h) (fun h => h) (fun h => h) (fun _ _ h => h) (fun _ _ h => h)
theorem DiskAt.klt (h : DiskAt W g x d) : x.kb < W.heap.size := (World.ownsRow.lt h.kept x.kb rfl).2
theorem DiskAt.lts (h : DiskAt W g x d) : ∀ k, (Md g x k ∨ x.D k) → k < W.heap.size := by
  rintro k ((rfl | rfl | rfl | ⟨a, e, rfl⟩) | hD)
  · exact h.blk.lt
  · exact h.klt
  · exact h.map.lt
  · rcases h.pend.addr with ⟨e1, _⟩ | ⟨q, e1, hq⟩
    · rw [e] at e1; cases e1
    · rw [e] at e1; injection e1 with e1; subst e1; exact hq
  · exact h.Dlt k hD
theorem DiskX.next {B : Nat} {X : Nat → Prop} (h : DiskAt w g x d) (hx : ∀ k, (Md g x k ∨ x.D k) → B ≤ k ∧ ¬ X k) (hX : ∀ k, X k → k < w.heap.size) (hB : B ≤ w.heap.size) (h' : DiskAt w' g x' d') (hn : NextX g w x x') (hk : Kept (Md g x) w w') :
    DiskX B X w' g d' ∧ Kept (fun k => B ≤ k ∧ ¬ X k) w w' := by
  refine ⟨⟨x', h', fun k hk' => ?_⟩, hk.more (fun k e => hx k (.inl e))⟩
  rcases hn k hk' with e | e
  · exact hx k e
  · exact ⟨Nat.le_trans hB e, fun f => by have := hX k f; omega⟩
theorem DiskX.kept {B : Nat} {X : Nat → Prop} (h : DiskX B X w g d) (hk : Kept X w w') : DiskX B X w' g d := by
  obtain ⟨x, h1, h2⟩ := h
  exact ⟨x, h1.kept_ hk (h2 _ (.inl (.inl rfl))).2 (h2 _ (.inl (.inr (.inl rfl)))).2 (h2 _ (.inl (.inr (.inr (.inl rfl))))).2 (fun a e => (h2 _ (.inl (.inr (.inr (.inr ⟨a, e, rfl⟩))))).2) (fun k e => (h2 _ (.inr e)).2), h2⟩
theorem DiskX.below {B : Nat} {X : Nat → Prop} (h : DiskX B X w g d) (hb : Below w.heap.size w w') : DiskX B X w' g d := by
  obtain ⟨x, h1, h2⟩ := h
  exact ⟨x, h1.below hb, h2⟩
/-- A block that is new is none of the disk's. -/
theorem DiskX.besides {B : Nat} {X X' : Nat → Prop} (h : DiskX B X w g d) (hX : ∀ k, X' k → X k ∨ w.heap.size ≤ k) : DiskX B X' w g d := by
  obtain ⟨x, h1, h2⟩ := h
  refine ⟨x, h1, fun k hk => ⟨(h2 k hk).1, fun e => ?_⟩⟩
  rcases hX k e with e | e
  · exact (h2 k hk).2 e
  · have := h1.lts k hk; omega
end
end Go.Proofs.Ytjcpbhjmmnpjnaa
/- bytes.Clone, slices.Clone of bools, disk.New, disk.Of. Conditions: lengths. -/
namespace Go.Proofs.Ytjcpbhjmmnpjnaa
set_option linter.unusedVariables false
set_option linter.unusedSimpArgs false
open Go.RowKit Go.Maps
theorem ow_addr {α : Type} {f : α → Value} {E : TypeId} {w : World} {base n c : Nat} {A : Option Addr} {xs : List α} (h : Ow f E w base (.slice A n c) xs) : ∀ a, A = some a → base ≤ a.block ∧ a.block < w.heap.size := by
  rintro a rfl
  rcases h.2 with ⟨e, _⟩ | ⟨g, cap, cur, e, hB, hh, _⟩
  · cases e
  · injection e with e1
    injection e1 with e1
    subst e1
    exact ⟨hB, (Array.getElem?_eq_some_iff.1 hh).1⟩
theorem Ow.rd2 {α : Type} {f : α → Value} {E : TypeId} {w : World} {base n c : Nat} {A : Option Addr} {xs : List α} (h : Ow f E w base (.slice A n c) xs) : Rd f w w.heap.size A xs := by
  obtain ⟨A', c', e, _⟩ := h.form
  injection e with e1 e2 e3
  subst e2
  exact h.rd
/-- A new row that the call made. -/
def NewP {α : Type} (f : α → Value) (E : TypeId) (xs : List α) (w : World) (e : Ending) (w' : World) : Prop := ∃ A c, e = .returned (.slice A xs.length c) ∧ xs.length ≤ c ∧ Ow f E w' w.heap.size (.slice A xs.length c) xs ∧ Below w.heap.size w w'
set_option maxHeartbeats 400000
set_option maxRecDepth 100000
theorem clone_c (bs : List (BitVec 8)) (A : Option Addr) (c : Nat) (w : World) (hr : Rd b8 w w.heap.size A bs) (hl : bs.length ≤ 1073741824) : Calls Try.prog 25 #[.slice A bs.length c] w (NewP b8 5 bs w) := by
  have hn := fun (a : Option Addr) (n c : Nat) (W : World) => Lib.run_eql_slice_nil (P := Try.prog) W 22 5 a n c 0 0 (by kernel_rfl)
  rcases A with _ | ad
  · have hb : bs = [] := by
      cases bs with
      | nil => rfl
      | cons x xs => obtain ⟨ad, e, _⟩ := hr 0 (by simp); cases e
    subst hb
    go_enter Try.func25, Try.ntmps25
    go_wp2
    go_ret
    exact ⟨none, 0, rfl, Nat.le_refl _, Ow.nil_ _ _ _ _, (by repeat (first | with_reducible assumption | with_reducible exact Below.refl _ _ | with_reducible apply bdN | with_reducible apply Below.drew | with_reducible refine Below.alloc ?_ (by simp) _ | with_reducible refine Below.setCell ?_ (by simp) _))⟩
  · go_enter Try.func25, Try.ntmps25
    go_wp2_with (at_builtin; refine wp_app one8 b8_one rfl (.tmp 5) (.tmp 6) rfl w.heap.size _ [] rfl (ow_empty b8 5 w w.heap.size (Nat.le_refl _)) (some ad) bs.length c bs rfl rfl w.heap.size (hr.alloc (Nat.le_refl _) _) (by simp; omega) (by decide) (by simp) ?_; intro v4 w4 ho4 hb4 hg4 hv4)
    rw [List.nil_append] at ho4
    obtain ⟨A4, c4, rfl, hc4⟩ := ho4.form
    go_ret
    exact ⟨A4, c4, rfl, hc4, ho4, (Gw.alloc w _).trans hb4⟩
theorem doneB : One Try.prog 47 4 (.bool false) 1 :=
  ⟨by kernel_rfl, by
    have h : (Try.prog.info? 4).map (fun i => (i.zero, i.size, i.bytes)) = some (some (.bool false), 1, 1) := by kernel_rfl
    obtain ⟨i, h1, h2, h3, h4⟩ := info_parts h
    exact ⟨i, h1, h2, h3, h4⟩, rfl⟩
theorem bclone_c (bs : List Bool) (A : Option Addr) (c : Nat) (w : World) (hr : Rd boV w w.heap.size A bs) (hl : bs.length ≤ 1073741824) : Calls Try.prog 36 #[.slice A bs.length c] w (NewP boV 4 bs w) := by
  have hn := fun (a : Option Addr) (n c : Nat) (W : World) => Lib.run_eql_slice_nil (P := Try.prog) W 47 4 a n c 0 0 (by kernel_rfl)
  rcases A with _ | ad
  · have hb : bs = [] := by
      cases bs with
      | nil => rfl
      | cons x xs => obtain ⟨ad, e, _⟩ := hr 0 (by simp); cases e
    subst hb
    go_enter Try.func36, Try.ntmps36
    go_wp2
    go_ret
    exact ⟨none, 0, rfl, Nat.le_refl _, Ow.nil_ _ _ _ _, (by repeat (first | with_reducible assumption | with_reducible exact Below.refl _ _ | with_reducible apply bdN | with_reducible apply Below.drew | with_reducible refine Below.alloc ?_ (by simp) _ | with_reducible refine Below.setCell ?_ (by simp) _))⟩
  · go_enter Try.func36, Try.ntmps36
    go_wp2_with (at_builtin; refine wp_app doneB boV_one rfl (.tmp 5) (.tmp 6) rfl w.heap.size _ [] rfl (ow_empty boV 4 w w.heap.size (Nat.le_refl _)) (some ad) bs.length c bs rfl rfl w.heap.size (hr.alloc (Nat.le_refl _) _) (by simp; omega) (by decide) (by simp) ?_; intro v4 w4 ho4 hb4 hg4 hv4)
    rw [List.nil_append] at ho4
    obtain ⟨A4, c4, rfl, hc4⟩ := ho4.form
    go_ret
    exact ⟨A4, c4, rfl, hc4, ho4, (Gw.alloc w _).trans hb4⟩
def okS (a b : Int) : Bool := decide (1 ≤ a) && (decide (a ≤ 16384) && (decide (64 ≤ b) && decide (b ≤ 1024)))
theorem shaped_c (w : World) (a b : Int) : Calls Try.prog 23 #[.int .i64 a, .int .i64 b] w fun e w' => e = .returned (.bool (okS a b)) ∧ w' = w := by
  unfold okS
  obtain ⟨r1, t1⟩ : ∃ r, decide (1 ≤ a) = r := ⟨_, rfl⟩
  obtain ⟨r2, t2⟩ : ∃ r, decide (a ≤ 16384) = r := ⟨_, rfl⟩
  obtain ⟨r3, t3⟩ : ∃ r, decide (64 ≤ b) = r := ⟨_, rfl⟩
  obtain ⟨r4, t4⟩ : ∃ r, decide (b ≤ 1024) = r := ⟨_, rfl⟩
  rw [t1, t2, t3, t4]
  cases r1 <;> cases r2 <;> cases r3 <;> cases r4
  all_goals
    go_enter Try.func23, Try.ntmps23
    go_wp2_with fail
    go_ret
    exact ⟨rfl, rfl⟩
def dk0 (secs size : Nat) (kept : List (BitVec 8)) : DK := ⟨size, secs, kept, [], false, 0, [], 0⟩
theorem made_c (w : World) (kb kc : Nat) (ks : List (BitVec 8)) (secs size : Nat) (ho : Ow b8 5 w 0 (.slice (some ⟨kb, 0, none⟩) ks.length kc) ks) (h1 : 64 ≤ size ∧ size ≤ 1024) (h2 : 1 ≤ secs ∧ secs ≤ 16384) (h3 : ks.length = secs * size) :
    Calls Try.prog 24 #[.slice (some ⟨kb, 0, none⟩) ks.length kc, .int .i64 size] w fun e w' => e = .returned (.pointer (some ⟨w.heap.size + 1, 0, none⟩)) ∧ DiskAt w' (w.heap.size + 1) ⟨kb, kc, none, 0, w.heap.size, none, 0, fun _ => False⟩ (dk0 secs size ks) ∧ Below w.heap.size w w' := by
  have hkl : kb < w.heap.size := (World.ownsRow.lt ho kb rfl).2
  have HO := Lib.hid (And.intro ho (And.intro h1 (And.intro h2 (And.intro h3 hkl))))
  obtain ⟨n, hn⟩ : ∃ n, n = ks.length := ⟨_, rfl⟩
  rw [← hn]
  have HN := Lib.hid hn
  have hmm := @run_makeMap Try.prog
  clear ho h1 h2 h3 hn hkl
  go_enter Try.func24, Try.ntmps24
  go_wp2_with fail
  go_ret
  obtain ⟨ho, h1, h2, h3, hkl⟩ := HO.out
  refine ⟨by simp, ⟨?_, ?_, ⟨[], rfl, ⟨by simp [dk0], .inl ⟨rfl, rfl⟩⟩, fun q h => by cases h⟩, ?_, Rd.nil, (fun a e => by cases e), (fun k e => e.elim), ?_, ?_, ?_, (fun a e => by cases e), (fun k e => e.elim), h1, h2, h3, (fun p h => by cases h), by simp [dk0]⟩, ((Gw.alloc w _).trans ((Gw.alloc _ _).mono (by simp)))⟩
  · have := Bk.new (w.alloc (.map #[] 0)) 78 #[.int .i64 size, .slice (some ⟨kb, 0, none⟩) n kc, .slice none 0 0, .map (some w.heap.size), .bool false, .int .i64 0, .slice none 0 0, .int .i64 0]
    rw [World.size_alloc] at this
    simp only [dk0]
    rw [← HN.out]
    exact this
  · exact ((ho.alloc _).alloc _)
  · exact (MapFn.made w).kept (Kept.alloc (fun _ => False) _ _) (fun h => h)
  · show kb ≠ w.heap.size + 1; omega
  · show w.heap.size ≠ w.heap.size + 1; omega
  · show w.heap.size ≠ kb; omega
end Go.Proofs.Ytjcpbhjmmnpjnaa
/- disk.New, Of, Shape, Off, Pending, Writes, On, Bytes. Conditions: lengths. -/
namespace Go.Proofs.Ytjcpbhjmmnpjnaa
set_option linter.unusedVariables false
set_option linter.unusedSimpArgs false
open Go.RowKit Go.Maps
set_option maxHeartbeats 400000
set_option maxRecDepth 100000
theorem dnew_bad (w : World) (a b : Int) (h : okS a b = false) : Calls Try.prog 35 #[.int .i64 a, .int .i64 b] w fun e w' => e = .returned (.tuple #[.pointer none, .int .i64 1]) ∧ w' = w := by
  have HS := Lib.hid (shaped_c w a b)
  rw [h] at HS
  clear h
  go_enter Try.func35, Try.ntmps35
  go_wp2_with fail
  refine Calls.mono HS.out ?_
  rintro e w' ⟨rfl, rfl⟩
  go_wp2_with fail
  go_ret2
  exact ⟨rfl, rfl⟩
theorem dnew_ok (w : World) (secs size : Nat) (h1 : 64 ≤ size ∧ size ≤ 1024) (h2 : 1 ≤ secs ∧ secs ≤ 16384) : Calls Try.prog 35 #[.int .i64 secs, .int .i64 size] w fun e w' => ∃ g, e = .returned (.tuple #[.pointer (some ⟨g, 0, none⟩), .int .i64 0]) ∧ DiskX w.heap.size (fun _ => False) w' g (dk0 secs size (List.replicate (secs * size) 0#8)) ∧ Below w.heap.size w w' := by
  have hok : okS secs size = true := by unfold okS; simp; omega
  have HS := Lib.hid (shaped_c w secs size)
  rw [hok] at HS
  have q1 : (secs : Int) ≤ 16384 := by omega
  have q2 : (size : Int) ≤ 1024 := by omega
  have q3 : (0 : Int) ≤ (secs : Int) := by omega
  have q4 : (0 : Int) ≤ (size : Int) := by omega
  have hle : secs * size ≤ 16777216 := by
    have := Nat.mul_le_mul h2.2 h1.2
    omega
  obtain ⟨n, hn⟩ : ∃ n, n = secs * size := ⟨_, rfl⟩
  rw [← hn] at hle ⊢
  have hw : IntKind.i64.wrap ((secs : Int) * (size : Int)) = (n : Int) := by rw [hn, IntWalk.i64_in _ (by rw [← Int.natCast_mul, ← hn]; omega)]; simp
  have HN := Lib.hid (And.intro hn (And.intro hle (And.intro h1 h2)))
  clear hok hn hle h1 h2
  go_enter Try.func35, Try.ntmps35
  go_wp2_with fail
  refine Calls.mono HS.out ?_
  rintro e w' ⟨rfl, rfl⟩
  go_wp2_with (at_make; refine wp_make (f := b8) one8 rfl (.tmp 12) (.tmp 12) rfl (0#8) rfl w'.heap.size n .i64 .i64 (n : Int) (n : Int) rfl rfl rfl rfl (by have := HN.out.2.1; omega) (by decide) (Nat.le_refl _) ?_; intro kb w2 hkb ho hb hg; have HKB := Lib.hid hkb; have HB := Lib.hid hb; have HOO := Lib.hid ho; clear hkb hb ho hg)
  have HM := Lib.hid (made_c w2 kb n (List.replicate n 0#8) secs size (by rw [List.length_replicate]; exact HOO.out.mono (Nat.zero_le _)) HN.out.2.2.1 HN.out.2.2.2 (by rw [List.length_replicate]; exact HN.out.1))
  rw [List.length_replicate] at HM
  clear hw
  go_wp2_with fail
  refine Calls.mono HM.out ?_
  rintro e w3 ⟨rfl, h3, b3⟩
  have HX := Lib.hid (And.intro h3 b3)
  clear h3 b3
  go_wp2_with fail
  go_ret2
  refine ⟨_, rfl, ⟨_, HX.out.1, fun k hk => ⟨?_, fun h => h⟩⟩, HB.out.trans (HX.out.2.mono HB.out.size)⟩
  have := HB.out.size
  have := HKB.out
  rcases hk with (e | e | e | ⟨a, e, _⟩) | e
  · omega
  · simp only at e; omega
  · simp only at e; omega
  · cases e
  · exact e.elim
theorem dsh_reg (Q : Exit → Act → World → Prop) (a0 : Act) (w : World) (g L S n c : Nat) (A : Option Addr) (hg : g < w.heap.size) (c0 : w.cell? ⟨g, 0, none⟩ = some (.int .i64 S)) (c1 : w.cell? ⟨g, 1, none⟩ = some (.slice A L c)) (hq : (L : Int).tdiv (S : Int) = (n : Int)) (s0 : ((S : Int) == 0) = false) (s1 : ¬ S = 0) (n1 : (0 : Int) ≤ (n : Int)) (n2 : (n : Int) ≤ 16384) (hsz : a0.tmps.size = 23) (sl0 : a0.tmps.getD 0 undef = .pointer (some ⟨g, 0, none⟩))
    (fin : ∀ (vals : Nat → Value) (w1 : World), Below w.heap.size w w1 → (IsV (.int .i64 n)) (vals 14) w1 → (IsV (.int .i64 S)) (vals 15) w1 → Q .normal (putD vals [9, 10, 11, 12, 13, 14, 15, 16, 17, 18, 19, 20, 21, 22, 2, 3] 0 a0) w1) :
    (Code.region 3 (regIn Try.f50 3) true).wp Try.prog Q a0 w := by
  refine region_by (G := fun w w1 => Below w.heap.size w w1) [IsV (.pointer (some ⟨g, 0, none⟩)),
    IsV (.pointer (some ⟨g, 0, none⟩)),
    IsV (.pointer (some ⟨g, 1, none⟩)),
    IsV (.slice A L c),
    IsV (.int .i64 L),
    IsV (.pointer (some ⟨g, 0, none⟩)),
    IsV (.pointer (some ⟨g, 0, none⟩)),
    IsV (.pointer (some ⟨g, 0, none⟩)),
    IsV (.int .i64 S),
    IsV (.int .i64 n),
    IsV (.pointer (some ⟨g, 0, none⟩)),
    IsV (.pointer (some ⟨g, 0, none⟩)),
    IsV (.pointer (some ⟨g, 0, none⟩)),
    IsV (.int .i64 S),
    IsV (.int .i64 n),
    IsV (.int .i64 S)]
    [9, 10, 11, 12, 13, 14, 15, 16, 17, 18, 19, 20, 21, 22, 2, 3] (by kernel_rfl) (Gw.drew _) Gw.trans (by rw [hsz]; kernel_rfl) (by kernel_rfl) ?_ ?_ ?_
  · intro f hf
    simp only [List.mem_cons, List.not_mem_nil, or_false] at hf
    rcases hf with rfl | rfl | rfl | rfl | rfl | rfl | rfl | rfl | rfl | rfl | rfl | rfl | rfl | rfl | rfl | rfl <;> intro v a b h g <;> first | exact IsV.mono h
  · refine ⟨?_, ?_, ?_, ?_, ?_, ?_, ?_, ?_, ?_, ?_, ?_, ?_, ?_, ?_, ?_, ?_, trivial⟩
    · exact owes_mv 0 (by kernel_rfl) (by kernel_rfl) (by kernel_rfl) sl0 (fun _ => rfl)
    · refine owes_v (Go.Op.nilCheck (Go.Operand.tmp 9)) 0 [0] (by kernel_rfl) (by kernel_rfl) (by kernel_rfl) rfl fun vals w1 ρ hG hF hρ hcst hfun => ?_
      have e9 : ρ (.tmp 9) = .pointer (some ⟨g, 0, none⟩) := ((hρ 9).trans (slotJ [0] (by rw [hsz]; decide) (by kernel_rfl))).trans (hF 0 (by decide))
      clear hρ hF hcst hfun sl0 fin
      exact opv_val (by go_simp <;> rfl) ⟨gw_self _, rfl⟩
    · refine owes_v (Go.Op.fieldAddr 78 (Go.Operand.tmp 10) 1) 0 [1] (by kernel_rfl) (by kernel_rfl) (by kernel_rfl) rfl fun vals w1 ρ hG hF hρ hcst hfun => ?_
      have e10 : ρ (.tmp 10) = .pointer (some ⟨g, 0, none⟩) := ((hρ 10).trans (slotJ [1] (by rw [hsz]; decide) (by kernel_rfl))).trans (hF 1 (by decide))
      clear hρ hF hcst hfun sl0 fin
      exact opv_val (by go_simp <;> rfl) ⟨gw_self _, rfl⟩
    · refine owes_v (Go.Op.load 22 (Go.Operand.tmp 11)) 22 [2] (by kernel_rfl) (by kernel_rfl) (by kernel_rfl) rfl fun vals w1 ρ hG hF hρ hcst hfun => ?_
      have e11 : ρ (.tmp 11) = .pointer (some ⟨g, 1, none⟩) := ((hρ 11).trans (slotJ [2] (by rw [hsz]; decide) (by kernel_rfl))).trans (hF 2 (by decide))
      have k := (hG.cell (p := ⟨g, 1, none⟩) hg).trans c1
      clear hρ hF hcst hfun sl0 fin
      exact opv_val (by go_simp <;> rfl) ⟨gw_self _, rfl⟩
    · refine owes_v (Go.Op.call { callee := Go.Callee.builtin Go.Builtin.len, args := #[Go.Operand.tmp 12], argTypes := #[22] }) 3 [3] (by kernel_rfl) (by kernel_rfl) (by kernel_rfl) rfl fun vals w1 ρ hG hF hρ hcst hfun => ?_
      have e12 : ρ (.tmp 12) = .slice A L c := ((hρ 12).trans (slotJ [3] (by rw [hsz]; decide) (by kernel_rfl))).trans (hF 3 (by decide))
      clear hρ hF hcst hfun sl0 fin
      exact opv_val (by go_simp <;> rfl) ⟨gw_self _, rfl⟩
    · exact owes_mv 0 (by kernel_rfl) (by kernel_rfl) (by kernel_rfl) sl0 (fun _ => rfl)
    · refine owes_v (Go.Op.nilCheck (Go.Operand.tmp 14)) 0 [5] (by kernel_rfl) (by kernel_rfl) (by kernel_rfl) rfl fun vals w1 ρ hG hF hρ hcst hfun => ?_
      have e14 : ρ (.tmp 14) = .pointer (some ⟨g, 0, none⟩) := ((hρ 14).trans (slotJ [5] (by rw [hsz]; decide) (by kernel_rfl))).trans (hF 5 (by decide))
      clear hρ hF hcst hfun sl0 fin
      exact opv_val (by go_simp <;> rfl) ⟨gw_self _, rfl⟩
    · refine owes_v (Go.Op.fieldAddr 78 (Go.Operand.tmp 15) 0) 0 [6] (by kernel_rfl) (by kernel_rfl) (by kernel_rfl) rfl fun vals w1 ρ hG hF hρ hcst hfun => ?_
      have e15 : ρ (.tmp 15) = .pointer (some ⟨g, 0, none⟩) := ((hρ 15).trans (slotJ [6] (by rw [hsz]; decide) (by kernel_rfl))).trans (hF 6 (by decide))
      clear hρ hF hcst hfun sl0 fin
      exact opv_val (by go_simp <;> rfl) ⟨gw_self _, rfl⟩
    · refine owes_v (Go.Op.load 3 (Go.Operand.tmp 16)) 3 [7] (by kernel_rfl) (by kernel_rfl) (by kernel_rfl) rfl fun vals w1 ρ hG hF hρ hcst hfun => ?_
      have e16 : ρ (.tmp 16) = .pointer (some ⟨g, 0, none⟩) := ((hρ 16).trans (slotJ [7] (by rw [hsz]; decide) (by kernel_rfl))).trans (hF 7 (by decide))
      have k := (hG.cell (p := ⟨g, 0, none⟩) hg).trans c0
      clear hρ hF hcst hfun sl0 fin
      exact opv_val (by go_simp <;> rfl) ⟨gw_self _, rfl⟩
    · refine owes_v (Go.Op.binOp Go.BinOp.quo 3 (Go.Operand.tmp 13) (Go.Operand.tmp 17) 3) 3 [4, 8] (by kernel_rfl) (by kernel_rfl) (by kernel_rfl) rfl fun vals w1 ρ hG hF hρ hcst hfun => ?_
      have e13 : ρ (.tmp 13) = .int .i64 L := ((hρ 13).trans (slotJ [4, 8] (by rw [hsz]; decide) (by kernel_rfl))).trans (hF 4 (by decide))
      have e17 : ρ (.tmp 17) = .int .i64 S := ((hρ 17).trans (slotJ [4, 8] (by rw [hsz]; decide) (by kernel_rfl))).trans (hF 8 (by decide))
      have kw0 : IntKind.i64.wrap ((n : Int)) = (n : Int) := wrapIn (by omega) (by omega)
      clear hρ hF hcst hfun sl0 fin
      exact opv_val (by go_simp <;> rfl) ⟨gw_self _, rfl⟩
    · exact owes_mv 0 (by kernel_rfl) (by kernel_rfl) (by kernel_rfl) sl0 (fun _ => rfl)
    · refine owes_v (Go.Op.nilCheck (Go.Operand.tmp 19)) 0 [10] (by kernel_rfl) (by kernel_rfl) (by kernel_rfl) rfl fun vals w1 ρ hG hF hρ hcst hfun => ?_
      have e19 : ρ (.tmp 19) = .pointer (some ⟨g, 0, none⟩) := ((hρ 19).trans (slotJ [10] (by rw [hsz]; decide) (by kernel_rfl))).trans (hF 10 (by decide))
      clear hρ hF hcst hfun sl0 fin
      exact opv_val (by go_simp <;> rfl) ⟨gw_self _, rfl⟩
    · refine owes_v (Go.Op.fieldAddr 78 (Go.Operand.tmp 20) 0) 0 [11] (by kernel_rfl) (by kernel_rfl) (by kernel_rfl) rfl fun vals w1 ρ hG hF hρ hcst hfun => ?_
      have e20 : ρ (.tmp 20) = .pointer (some ⟨g, 0, none⟩) := ((hρ 20).trans (slotJ [11] (by rw [hsz]; decide) (by kernel_rfl))).trans (hF 11 (by decide))
      clear hρ hF hcst hfun sl0 fin
      exact opv_val (by go_simp <;> rfl) ⟨gw_self _, rfl⟩
    · refine owes_v (Go.Op.load 3 (Go.Operand.tmp 21)) 3 [12] (by kernel_rfl) (by kernel_rfl) (by kernel_rfl) rfl fun vals w1 ρ hG hF hρ hcst hfun => ?_
      have e21 : ρ (.tmp 21) = .pointer (some ⟨g, 0, none⟩) := ((hρ 21).trans (slotJ [12] (by rw [hsz]; decide) (by kernel_rfl))).trans (hF 12 (by decide))
      have k := (hG.cell (p := ⟨g, 0, none⟩) hg).trans c0
      clear hρ hF hcst hfun sl0 fin
      exact opv_val (by go_simp <;> rfl) ⟨gw_self _, rfl⟩
    · exact owes_mvj 9 18 (by kernel_rfl) (by kernel_rfl) (by kernel_rfl) (by kernel_rfl) (by rw [hsz]; decide) (fun v w h => h)
    · exact owes_mvj 13 22 (by kernel_rfl) (by kernel_rfl) (by kernel_rfl) (by kernel_rfl) (by rw [hsz]; decide) (fun v w h => h)
  · intro vals w1 hG hF
    exact fin vals w1 hG (hF 14 (by decide +kernel)) (hF 15 (by decide +kernel))
section
variable {w : World} {g : Nat} {x : DX} {d : DK}
theorem dshape_c (h : DiskAt w g x d) : Calls Try.prog 50 #[.pointer (some ⟨g, 0, none⟩)] w fun e w' => e = .returned (.tuple #[.int .i64 d.secs, .int .i64 d.size]) ∧ Below w.heap.size w w' := by
  obtain ⟨c0, c1, _⟩ := h.blk.eight
  have hg := h.blk.lt
  obtain ⟨s1, s2⟩ := h.sz
  obtain ⟨n1, n2⟩ := h.sc
  obtain ⟨S, hS⟩ : ∃ S, S = d.size := ⟨_, rfl⟩
  obtain ⟨n, hn⟩ : ∃ n, n = d.secs := ⟨_, rfl⟩
  obtain ⟨L, hL⟩ : ∃ L, L = d.kept.length := ⟨_, rfl⟩
  have hkl := h.kl
  rw [← hS, ← hn, ← hL] at hkl
  rw [← hS] at c0 s1 s2 ⊢
  rw [← hn] at n1 n2 ⊢
  rw [← hL] at c1
  have hq : (L : Int).tdiv (S : Int) = (n : Int) := by rw [hkl, Int.natCast_mul, Int.mul_tdiv_cancel _ (by omega)]
  have t1 : ((S : Int) == 0) = false := by simp; omega
  have t2 : ¬ S = 0 := by omega
  have HR := Lib.hid (fun Q a0 => dsh_reg Q a0 w g L S n x.kc _ hg c0 c1 hq t1 t2 (by omega) (by omega))
  clear h hS hn hL hkl hq c1 s1 s2 n1 n2
  go_enter Try.func50, Try.ntmps50
  go_wp2_with fail
  refine HR.out _ _ rfl rfl ?_
  intro vals w1 hG h2 h3
  unfold IsV at h2 h3
  simp only [putD, Act.put, List.setIfInBounds_toArray, List.set_cons_zero, List.set_cons_succ, h2, h3]
  have HG := Lib.hid hG
  clear h2 h3 hG
  go_wp2_with fail
  go_ret2
  exact ⟨rfl, HG.out⟩
theorem dhas_c (h : DiskAt w g x d) (s : Int) : Calls Try.prog 43 #[.pointer (some ⟨g, 0, none⟩), .int .i64 s] w fun e w' => e = .returned (.bool (decide (0 ≤ s) && decide (s < d.secs))) ∧ Below w.heap.size w w' := by
  have HS := Lib.hid (dshape_c h)
  obtain ⟨n, hn⟩ : ∃ n, n = d.secs := ⟨_, rfl⟩
  rw [← hn] at HS ⊢
  clear h hn
  obtain ⟨r1, t1⟩ : ∃ r, decide (0 ≤ s) = r := ⟨_, rfl⟩
  obtain ⟨r2, t2⟩ : ∃ r, decide (s < (n : Int)) = r := ⟨_, rfl⟩
  rw [t1, t2]
  cases r1 <;> cases r2
  all_goals
    go_enter Try.func43, Try.ntmps43
    go_wp2_with fail
    refine Calls.mono HS.out ?_
    rintro e w1 ⟨rfl, b1⟩
    have HB := Lib.hid b1
    clear b1
    go_wp2_with fail
    go_ret
    exact ⟨rfl, HB.out⟩
theorem dpending_c (h : DiskAt w g x d) : Calls Try.prog 22 #[.pointer (some ⟨g, 0, none⟩)] w fun e w' => e = .returned (.int .i64 d.pend.length) ∧ w' = w := by
  obtain ⟨_, _, c2, _⟩ := h.blk.eight
  obtain ⟨b, hb⟩ : ∃ b, b = d.pend.length := ⟨_, rfl⟩
  rw [← hb] at c2 ⊢
  clear h hb
  go_enter Try.func22, Try.ntmps22
  go_wp2
  go_ret
  exact ⟨rfl, rfl⟩
theorem dwrites_c (h : DiskAt w g x d) : Calls Try.prog 21 #[.pointer (some ⟨g, 0, none⟩)] w fun e w' => e = .returned (.int .i64 d.writes) ∧ w' = w := by
  obtain ⟨_, _, _, _, _, _, _, c7⟩ := h.blk.eight
  obtain ⟨b, hb⟩ : ∃ b, b = d.writes := ⟨_, rfl⟩
  rw [← hb] at c7 ⊢
  clear h hb
  go_enter Try.func21, Try.ntmps21
  go_wp2
  go_ret
  exact ⟨rfl, rfl⟩
/-- A disk whose power is on. -/
def DK.on (d : DK) : DK := { d with off := false }
theorem don_c (h : DiskAt w g x d) : Calls Try.prog 18 #[.pointer (some ⟨g, 0, none⟩)] w fun e w' => e = .returned (.tuple #[]) ∧ DiskAt w' g x d.on ∧ Kept (Md g x) w w' := by
  have c4 := h.blk.eight.2.2.2.2.1
  have hfz := h.blk.free 4
  have H := Lib.hid h
  clear h
  go_enter Try.func18, Try.ntmps18
  go_wp2
  go_end0
  have h := H.out
  have hk := Kept.set w g 4 (.bool false)
  have h' := h
  refine ⟨rfl, ?_, hk.more (fun k e => .inl e)⟩
  exact ⟨h.blk.set 4 _, hk.ow h.kept (fun k e => by obtain ⟨a, e1, rfl⟩ := own_slice e; injection e1 with e1; subst e1; exact h.n1), h.pend.kept hk (fun k e => by obtain ⟨a, e1, rfl⟩ := own_slice e; exact (h.n4 a e1).1) (fun k e => (h.n5 k e).1),
   h.map.kept hk h.n2, hk.rd h.keep (fun a e => (h.n5 _ (h.keepD a e)).1), h.keepD, fun k e => Nat.lt_of_lt_of_le (h.Dlt k e) hk.size, h.n1, h.n2, h.n3, h.n4, h.n5, h.sz, h.sc, h.kl, h.pl, h.lim⟩
end
end Go.Proofs.Ytjcpbhjmmnpjnaa
/- disk.Of; where a sector stands. Conditions: lengths. -/
namespace Go.Proofs.Ytjcpbhjmmnpjnaa
set_option linter.unusedVariables false
set_option linter.unusedSimpArgs false
open Go.RowKit Go.Maps
set_option maxHeartbeats 400000
set_option maxRecDepth 100000
/-- May n bytes be a disk of sectors of s bytes? -/
def okO (n : Nat) (s : Int) : Bool := decide (1 ≤ s) && (decide ((n : Int) % s = 0) && okS ((n : Int) / s) s)
theorem dof_bad (w : World) (A : Option Addr) (n c : Nat) (s : Int) (hn : n ≤ maxLen) (h1 : -9223372036854775808 ≤ s) (h2 : s ≤ 9223372036854775807) (h : okO n s = false) : Calls Try.prog 8 #[.slice A n c, .int .i64 s] w fun e w' => e = .returned (.tuple #[.pointer none, .int .i64 1]) ∧ w' = w := by
  by_cases hs : s < 1
  · go_enter Try.func8, Try.ntmps8
    go_wp2_with fail
    go_ret2
    exact ⟨rfl, rfl⟩
  · have hs1 : 1 ≤ s := by omega
    unfold maxLen at hn
    have q1 : (n : Int) ≤ 9223372036854775807 := by omega
    have q2 : (0 : Int) ≤ (n : Int) := by omega
    have hd : (n : Int).tdiv s = (n : Int) / s := Int.tdiv_eq_ediv_of_nonneg (by omega)
    have hm : (n : Int).tmod s = (n : Int) % s := Int.tmod_eq_emod_of_nonneg (by omega)
    have hq0 : (0 : Int) ≤ (n : Int) / s := Int.ediv_nonneg (by omega) (by omega)
    have hq1 : (n : Int) / s ≤ (n : Int) := Int.ediv_le_self _ (by omega)
    by_cases hr : (n : Int) % s = 0
    · have hsh : okS ((n : Int) / s) s = false := by
        unfold okO at h
        simp only [hr, decide_true, Bool.true_and, Bool.and_eq_false_iff, decide_eq_false_iff_not] at h
        rcases h with h | h
        · omega
        · exact h
      obtain ⟨q, hq⟩ : ∃ q, q = (n : Int) / s := ⟨_, rfl⟩
      rw [← hq] at hd hq0 hq1 hsh
      have HS := Lib.hid (shaped_c w q s)
      rw [hsh] at HS
      have hd2 : (n : Int) / s = q := hq.symm
      rw [hr] at hm
      have t0 : (s == 0) = false := by simp; omega
      have t0' : ¬ s = 0 := by omega
      have t1 : decide (s < 1) = false := by simp; omega
      have kq : IntKind.i64.wrap q = q := IntWalk.i64_in _ (by omega)
      clear hsh hq h hs hn
      go_enter Try.func8, Try.ntmps8
      go_wp2_with fail
      refine Calls.mono HS.out ?_
      rintro e w' ⟨rfl, rfl⟩
      go_wp2_with fail
      go_ret2
      exact ⟨rfl, rfl⟩
    · obtain ⟨q, hq⟩ : ∃ q, q = (n : Int) % s := ⟨_, rfl⟩
      have hb : 0 ≤ (n : Int) % s ∧ (n : Int) % s < s := ⟨Int.emod_nonneg _ (by omega), Int.emod_lt_of_pos _ (by omega)⟩
      rw [← hq] at hm hr hb
      obtain ⟨b1, b2⟩ := hb
      have hd2 : (n : Int) % s = q := hq.symm
      have t0 : (s == 0) = false := by simp; omega
      have t0' : ¬ s = 0 := by omega
      have t1 : decide (s < 1) = false := by simp; omega
      have t2 : (q == 0) = false := by simp; omega
      have t3 : (q != 0) = true := by simp; omega
      have kq : IntKind.i64.wrap q = q := IntWalk.i64_in _ (by omega)
      clear hq h hs hn hd hr hq0 hq1
      go_enter Try.func8, Try.ntmps8
      go_wp2_with fail
      go_ret2
      exact ⟨rfl, rfl⟩
theorem dof_ok (w : World) (A : Option Addr) (bs : List (BitVec 8)) (c secs size : Nat) (hr : Rd b8 w w.heap.size A bs) (h1 : 64 ≤ size ∧ size ≤ 1024) (h2 : 1 ≤ secs ∧ secs ≤ 16384) (h3 : bs.length = secs * size) : Calls Try.prog 8 #[.slice A bs.length c, .int .i64 size] w fun e w' => ∃ g, e = .returned (.tuple #[.pointer (some ⟨g, 0, none⟩), .int .i64 0]) ∧ DiskX w.heap.size (fun _ => False) w' g (dk0 secs size bs) ∧ Below w.heap.size w w' := by
  have hok : okS secs size = true := by unfold okS; simp; omega
  have HS := Lib.hid (fun w => shaped_c w secs size)
  rw [hok] at HS
  have q1 : (secs : Int) ≤ 16384 := by omega
  have q2 : (size : Int) ≤ 1024 := by omega
  have q3 : (0 : Int) ≤ (secs : Int) := by omega
  have q4 : (1 : Int) ≤ (size : Int) := by omega
  have hle : secs * size ≤ 16777216 := by
    have := Nat.mul_le_mul h2.2 h1.2
    omega
  have HC := Lib.hid (clone_c bs A c w hr (by omega))
  obtain ⟨n, hn⟩ : ∃ n, n = bs.length := ⟨_, rfl⟩
  unfold NewP at HC
  rw [← hn] at h3 HC ⊢
  have HN := Lib.hid (And.intro hn (And.intro h3 (And.intro h1 h2)))
  have q5 : (n : Int) ≤ 16777216 := by omega
  have q6 : (0 : Int) ≤ (n : Int) := by omega
  have hnn : (n : Int) = (secs : Int) * (size : Int) := by rw [h3]; simp
  have hd : (n : Int).tdiv (size : Int) = (secs : Int) := by rw [hnn, Int.mul_tdiv_cancel _ (by omega)]
  have hm : (n : Int).tmod (size : Int) = 0 := by rw [hnn, Int.mul_tmod_left]
  have hd2 : (n : Int) / (size : Int) = (secs : Int) := by rw [hnn, Int.mul_ediv_cancel _ (by omega)]
  have hm2 : (n : Int) % (size : Int) = 0 := by rw [hnn, Int.mul_emod_left]
  have t0 : ((size : Int) == 0) = false := by simp; omega
  have t0' : ¬ size = 0 := by omega
  have t1 : decide ((size : Int) < 1) = false := by simp; omega
  clear hok hn hle h1 h2 h3 hr hnn
  go_enter Try.func8, Try.ntmps8
  go_wp2_with fail
  refine Calls.mono (HS.out _) ?_
  rintro e w1 ⟨rfl, rfl⟩
  go_wp2_with fail
  refine Calls.mono HC.out ?_
  rintro e w2 ⟨A2, c2, rfl, hc2, ho, hb⟩
  have HO := Lib.hid ho
  have HB := Lib.hid hb
  obtain ⟨kb, rfl⟩ : ∃ kb, A2 = some ⟨kb, 0, none⟩ := by
    rcases ho.2 with ⟨e, hn⟩ | ⟨q, _, _, e, _⟩
    · have := HN.out; have h0 : 1 ≤ secs * size := Nat.mul_le_mul this.2.2.2.1 (show 1 ≤ size by omega); omega
    · injection e with e; exact ⟨q, e⟩
  have HM := Lib.hid (made_c w2 kb c2 bs secs size (by have := HO.out.mono (Nat.zero_le _); rw [HN.out.1] at this; exact this) HN.out.2.2.1 HN.out.2.2.2 (by rw [← HN.out.1]; exact HN.out.2.1))
  rw [← HN.out.1] at HM
  have HKB := Lib.hid ((ow_addr ho) _ rfl).1
  clear ho hb hc2 hd hm hd2 hm2
  go_wp2_with fail
  refine Calls.mono HM.out ?_
  rintro e w3 ⟨rfl, h3, b3⟩
  have HX := Lib.hid (And.intro h3 b3)
  clear h3 b3
  go_wp2_with fail
  go_ret2
  refine ⟨_, rfl, ⟨_, HX.out.1, fun k hk => ⟨?_, fun h => h⟩⟩, HB.out.trans (HX.out.2.mono HB.out.size)⟩
  have := HB.out.size
  have hkb : w1.heap.size ≤ kb := HKB.out
  rcases hk with (e | e | e | ⟨a, e, _⟩) | e
  · omega
  · simp only at e; omega
  · simp only at e; omega
  · cases e
  · exact e.elim
attribute [local go_sem high] sliced_cut
theorem cut_some (q c k : Nat) (h : ¬ c = k) : cutA (some (⟨q, 0, none⟩ : Addr)) c k = some ⟨q, k, none⟩ := by
  unfold cutA
  rw [if_neg h]
  show some ((⟨q, 0, none⟩ : Addr).add k) = _
  congr 1
  unfold Addr.add; split <;> simp_all
theorem dse_reg (Q : Exit → Act → World → Prop) (a0 : Act) (w : World) (g h L S c kb s o r rc : Nat) (hg : g < w.heap.size) (c0 : w.cell? ⟨g, 0, none⟩ = some (.int .i64 S)) (c1 : w.cell? ⟨g, 1, none⟩ = some (.slice (some ⟨kb, 0, none⟩) L c)) (hh : h < w.heap.size) (ch : w.cell? ⟨h, 0, none⟩ = some (.int .i64 s)) (e1 : (s : Int) * (S : Int) = (o : Int)) (t1 : (o : Int) ≤ (L : Int)) (t2 : (L : Int) ≤ (c : Int)) (t3 : (c : Int) ≤ 9223372036854775807) (t4 : (S : Int) ≤ (rc : Int)) (g1 : L - o = r) (g2 : c - o = rc) (g3 : o ≤ L) (g4 : L ≤ c) (g5 : S ≤ rc) (g6 : ¬ c = o) (p1 : (0 : Int) ≤ (o : Int)) (p2 : (0 : Int) ≤ (S : Int)) (p3 : (o : Int) ≤ 100000000) (g7 : ¬ rc = 0) (hsz : a0.tmps.size = 22) (sl0 : a0.tmps.getD 0 undef = .pointer (some ⟨g, 0, none⟩)) (sl3 : a0.tmps.getD 3 undef = .pointer (some ⟨h, 0, none⟩))
    (fin : ∀ (vals : Nat → Value) (w1 : World), Below w.heap.size w w1 → (IsV (.slice (some ⟨kb, o, none⟩) S rc)) (vals 17) w1 → Q .normal (putD vals [5, 6, 7, 8, 9, 10, 11, 12, 13, 14, 15, 16, 17, 18, 19, 20, 21, 4] 0 a0) w1) :
    (Code.region 1 (regIn Try.f44 1) true).wp Try.prog Q a0 w := by
  refine region_by (G := fun w w1 => Below w.heap.size w w1) [IsV (.pointer (some ⟨g, 0, none⟩)),
    IsV (.pointer (some ⟨g, 0, none⟩)),
    IsV (.pointer (some ⟨g, 1, none⟩)),
    IsV (.slice (some ⟨kb, 0, none⟩) L c),
    IsV (.pointer (some ⟨h, 0, none⟩)),
    IsV (.int .i64 s),
    IsV (.pointer (some ⟨g, 0, none⟩)),
    IsV (.pointer (some ⟨g, 0, none⟩)),
    IsV (.pointer (some ⟨g, 0, none⟩)),
    IsV (.int .i64 S),
    IsV (.int .i64 o),
    IsV (.slice (some ⟨kb, o, none⟩) r rc),
    IsV (.pointer (some ⟨g, 0, none⟩)),
    IsV (.pointer (some ⟨g, 0, none⟩)),
    IsV (.pointer (some ⟨g, 0, none⟩)),
    IsV (.int .i64 S),
    IsV (.slice (some ⟨kb, o, none⟩) S rc),
    IsV (.slice (some ⟨kb, o, none⟩) S rc)]
    [5, 6, 7, 8, 9, 10, 11, 12, 13, 14, 15, 16, 17, 18, 19, 20, 21, 4] (by kernel_rfl) (Gw.drew _) Gw.trans (by rw [hsz]; kernel_rfl) (by kernel_rfl) ?_ ?_ ?_
  · intro f hf
    simp only [List.mem_cons, List.not_mem_nil, or_false] at hf
    rcases hf with rfl | rfl | rfl | rfl | rfl | rfl | rfl | rfl | rfl | rfl | rfl | rfl | rfl | rfl | rfl | rfl | rfl | rfl <;> intro v a b h g <;> first | exact IsV.mono h
  · refine ⟨?_, ?_, ?_, ?_, ?_, ?_, ?_, ?_, ?_, ?_, ?_, ?_, ?_, ?_, ?_, ?_, ?_, ?_, trivial⟩
    · exact owes_mv 0 (by kernel_rfl) (by kernel_rfl) (by kernel_rfl) sl0 (fun _ => rfl)
    · refine owes_v (Go.Op.nilCheck (Go.Operand.tmp 5)) 0 [0] (by kernel_rfl) (by kernel_rfl) (by kernel_rfl) rfl fun vals w1 ρ hG hF hρ hcst hfun => ?_
      have e5 : ρ (.tmp 5) = .pointer (some ⟨g, 0, none⟩) := ((hρ 5).trans (slotJ [0] (by rw [hsz]; decide) (by kernel_rfl))).trans (hF 0 (by decide))
      clear hρ hF hcst hfun sl0 sl3 fin
      exact opv_val (by go_simp <;> rfl) ⟨gw_self _, rfl⟩
    · refine owes_v (Go.Op.fieldAddr 78 (Go.Operand.tmp 6) 1) 0 [1] (by kernel_rfl) (by kernel_rfl) (by kernel_rfl) rfl fun vals w1 ρ hG hF hρ hcst hfun => ?_
      have e6 : ρ (.tmp 6) = .pointer (some ⟨g, 0, none⟩) := ((hρ 6).trans (slotJ [1] (by rw [hsz]; decide) (by kernel_rfl))).trans (hF 1 (by decide))
      clear hρ hF hcst hfun sl0 sl3 fin
      exact opv_val (by go_simp <;> rfl) ⟨gw_self _, rfl⟩
    · refine owes_v (Go.Op.load 22 (Go.Operand.tmp 7)) 22 [2] (by kernel_rfl) (by kernel_rfl) (by kernel_rfl) rfl fun vals w1 ρ hG hF hρ hcst hfun => ?_
      have e7 : ρ (.tmp 7) = .pointer (some ⟨g, 1, none⟩) := ((hρ 7).trans (slotJ [2] (by rw [hsz]; decide) (by kernel_rfl))).trans (hF 2 (by decide))
      have k := (hG.cell (p := ⟨g, 1, none⟩) hg).trans c1
      clear hρ hF hcst hfun sl0 sl3 fin
      exact opv_val (by go_simp <;> rfl) ⟨gw_self _, rfl⟩
    · refine owes_v (Go.Op.fieldAddr 87 (Go.Operand.tmp 3) 0) 0 [] (by kernel_rfl) (by kernel_rfl) (by kernel_rfl) rfl fun vals w1 ρ hG hF hρ hcst hfun => ?_
      have e3 : ρ (.tmp 3) = .pointer (some ⟨h, 0, none⟩) := ((hρ 3).trans (slotO [] (by kernel_rfl))).trans sl3
      clear hρ hF hcst hfun sl0 sl3 fin
      exact opv_val (by go_simp <;> rfl) ⟨gw_self _, rfl⟩
    · refine owes_v (Go.Op.load 3 (Go.Operand.tmp 9)) 3 [4] (by kernel_rfl) (by kernel_rfl) (by kernel_rfl) rfl fun vals w1 ρ hG hF hρ hcst hfun => ?_
      have e9 : ρ (.tmp 9) = .pointer (some ⟨h, 0, none⟩) := ((hρ 9).trans (slotJ [4] (by rw [hsz]; decide) (by kernel_rfl))).trans (hF 4 (by decide))
      have k := (hG.cell (p := ⟨h, 0, none⟩) hh).trans ch
      clear hρ hF hcst hfun sl0 sl3 fin
      exact opv_val (by go_simp <;> rfl) ⟨gw_self _, rfl⟩
    · exact owes_mv 0 (by kernel_rfl) (by kernel_rfl) (by kernel_rfl) sl0 (fun _ => rfl)
    · refine owes_v (Go.Op.nilCheck (Go.Operand.tmp 11)) 0 [6] (by kernel_rfl) (by kernel_rfl) (by kernel_rfl) rfl fun vals w1 ρ hG hF hρ hcst hfun => ?_
      have e11 : ρ (.tmp 11) = .pointer (some ⟨g, 0, none⟩) := ((hρ 11).trans (slotJ [6] (by rw [hsz]; decide) (by kernel_rfl))).trans (hF 6 (by decide))
      clear hρ hF hcst hfun sl0 sl3 fin
      exact opv_val (by go_simp <;> rfl) ⟨gw_self _, rfl⟩
    · refine owes_v (Go.Op.fieldAddr 78 (Go.Operand.tmp 12) 0) 0 [7] (by kernel_rfl) (by kernel_rfl) (by kernel_rfl) rfl fun vals w1 ρ hG hF hρ hcst hfun => ?_
      have e12 : ρ (.tmp 12) = .pointer (some ⟨g, 0, none⟩) := ((hρ 12).trans (slotJ [7] (by rw [hsz]; decide) (by kernel_rfl))).trans (hF 7 (by decide))
      clear hρ hF hcst hfun sl0 sl3 fin
      exact opv_val (by go_simp <;> rfl) ⟨gw_self _, rfl⟩
    · refine owes_v (Go.Op.load 3 (Go.Operand.tmp 13)) 3 [8] (by kernel_rfl) (by kernel_rfl) (by kernel_rfl) rfl fun vals w1 ρ hG hF hρ hcst hfun => ?_
      have e13 : ρ (.tmp 13) = .pointer (some ⟨g, 0, none⟩) := ((hρ 13).trans (slotJ [8] (by rw [hsz]; decide) (by kernel_rfl))).trans (hF 8 (by decide))
      have k := (hG.cell (p := ⟨g, 0, none⟩) hg).trans c0
      clear hρ hF hcst hfun sl0 sl3 fin
      exact opv_val (by go_simp <;> rfl) ⟨gw_self _, rfl⟩
    · refine owes_v (Go.Op.binOp Go.BinOp.mul 3 (Go.Operand.tmp 10) (Go.Operand.tmp 14) 3) 3 [5, 9] (by kernel_rfl) (by kernel_rfl) (by kernel_rfl) rfl fun vals w1 ρ hG hF hρ hcst hfun => ?_
      have e10 : ρ (.tmp 10) = .int .i64 s := ((hρ 10).trans (slotJ [5, 9] (by rw [hsz]; decide) (by kernel_rfl))).trans (hF 5 (by decide))
      have e14 : ρ (.tmp 14) = .int .i64 S := ((hρ 14).trans (slotJ [5, 9] (by rw [hsz]; decide) (by kernel_rfl))).trans (hF 9 (by decide))
      have kw0 : IntKind.i64.wrap ((o : Int)) = (o : Int) := wrapIn (by omega) (by omega)
      clear hρ hF hcst hfun sl0 sl3 fin
      exact opv_val (by go_simp <;> rfl) ⟨gw_self _, rfl⟩
    · refine owes_v (Go.Op.slice 22 (Go.Operand.tmp 8) (some (Go.Operand.tmp 15)) none none) 22 [3, 10] (by kernel_rfl) (by kernel_rfl) (by kernel_rfl) rfl fun vals w1 ρ hG hF hρ hcst hfun => ?_
      have e8 : ρ (.tmp 8) = .slice (some ⟨kb, 0, none⟩) L c := ((hρ 8).trans (slotJ [3, 10] (by rw [hsz]; decide) (by kernel_rfl))).trans (hF 3 (by decide))
      have e15 : ρ (.tmp 15) = .int .i64 o := ((hρ 15).trans (slotJ [3, 10] (by rw [hsz]; decide) (by kernel_rfl))).trans (hF 10 (by decide))
      clear hρ hF hcst hfun sl0 sl3 fin
      exact opv_val (by go_simp <;> rfl) ⟨gw_self _, rfl⟩
    · exact owes_mv 0 (by kernel_rfl) (by kernel_rfl) (by kernel_rfl) sl0 (fun _ => rfl)
    · refine owes_v (Go.Op.nilCheck (Go.Operand.tmp 17)) 0 [12] (by kernel_rfl) (by kernel_rfl) (by kernel_rfl) rfl fun vals w1 ρ hG hF hρ hcst hfun => ?_
      have e17 : ρ (.tmp 17) = .pointer (some ⟨g, 0, none⟩) := ((hρ 17).trans (slotJ [12] (by rw [hsz]; decide) (by kernel_rfl))).trans (hF 12 (by decide))
      clear hρ hF hcst hfun sl0 sl3 fin
      exact opv_val (by go_simp <;> rfl) ⟨gw_self _, rfl⟩
    · refine owes_v (Go.Op.fieldAddr 78 (Go.Operand.tmp 18) 0) 0 [13] (by kernel_rfl) (by kernel_rfl) (by kernel_rfl) rfl fun vals w1 ρ hG hF hρ hcst hfun => ?_
      have e18 : ρ (.tmp 18) = .pointer (some ⟨g, 0, none⟩) := ((hρ 18).trans (slotJ [13] (by rw [hsz]; decide) (by kernel_rfl))).trans (hF 13 (by decide))
      clear hρ hF hcst hfun sl0 sl3 fin
      exact opv_val (by go_simp <;> rfl) ⟨gw_self _, rfl⟩
    · refine owes_v (Go.Op.load 3 (Go.Operand.tmp 19)) 3 [14] (by kernel_rfl) (by kernel_rfl) (by kernel_rfl) rfl fun vals w1 ρ hG hF hρ hcst hfun => ?_
      have e19 : ρ (.tmp 19) = .pointer (some ⟨g, 0, none⟩) := ((hρ 19).trans (slotJ [14] (by rw [hsz]; decide) (by kernel_rfl))).trans (hF 14 (by decide))
      have k := (hG.cell (p := ⟨g, 0, none⟩) hg).trans c0
      clear hρ hF hcst hfun sl0 sl3 fin
      exact opv_val (by go_simp <;> rfl) ⟨gw_self _, rfl⟩
    · refine owes_v (Go.Op.slice 22 (Go.Operand.tmp 16) none (some (Go.Operand.tmp 20)) none) 22 [11, 15] (by kernel_rfl) (by kernel_rfl) (by kernel_rfl) rfl fun vals w1 ρ hG hF hρ hcst hfun => ?_
      have e16 : ρ (.tmp 16) = .slice (some ⟨kb, o, none⟩) r rc := ((hρ 16).trans (slotJ [11, 15] (by rw [hsz]; decide) (by kernel_rfl))).trans (hF 11 (by decide))
      have e20 : ρ (.tmp 20) = .int .i64 S := ((hρ 20).trans (slotJ [11, 15] (by rw [hsz]; decide) (by kernel_rfl))).trans (hF 15 (by decide))
      clear hρ hF hcst hfun sl0 sl3 fin
      exact opv_val (by go_simp <;> rfl) ⟨gw_self _, rfl⟩
    · exact owes_mvj 16 21 (by kernel_rfl) (by kernel_rfl) (by kernel_rfl) (by kernel_rfl) (by rw [hsz]; decide) (fun v w h => h)
  · intro vals w1 hG hF
    exact fin vals w1 hG (hF 17 (by decide +kernel))
end Go.Proofs.Ytjcpbhjmmnpjnaa
/- disk.Disk's sector and Read. Conditions: lengths. -/
namespace Go.Proofs.Ytjcpbhjmmnpjnaa
set_option linter.unusedVariables false
set_option linter.unusedSimpArgs false
open Go.RowKit Go.Maps
theorem flat2 {α : Type} (f : α → List Value) (h2 : ∀ x, (f x).length = 2) : ∀ (l : List α) (i j : Nat) (hi : i < l.length), j < 2 → (l.flatMap f)[i * 2 + j]? = (f l[i])[j]?
  | [], i, j, hi, _ => absurd hi (by simp)
  | x :: l, 0, j, hi, hj => by
    rw [List.flatMap_cons, Nat.zero_mul, Nat.zero_add, List.getElem?_append_left (by rw [h2]; exact hj)]
    rfl
  | x :: l, i + 1, j, hi, hj => by
    rw [List.flatMap_cons, List.getElem?_append_right (by rw [h2]; omega), h2, show (i + 1) * 2 + j - 2 = i * 2 + j from by omega]
    exact flat2 f h2 l i j (by simpa using hi) hj
/-- Element j of a row of pending writes. -/
theorem PRow.at_ {W : World} {A : Option Addr} {n c : Nat} {L : List PW} {D : Nat → Prop} (h : PRow W (.slice A n c) L D) (j : Nat) (hj : j < L.length) :
    ∃ ad Aj cj, A = some ad ∧ ad.block < W.heap.size ∧ (ad.add (j * 2)).block = ad.block ∧ W.cell? (ad.add (j * 2)) = some (.int .i64 L[j].1) ∧ W.cell? ⟨(ad.add (j * 2)).block, (ad.add (j * 2)).off + 1, none⟩ = some (.slice Aj L[j].2.length cj) ∧ Rd b8 W W.heap.size Aj L[j].2 ∧ L[j].2.length ≤ cj ∧ ∀ a, Aj = some a → D a.block := by
  obtain ⟨ds, h1, h2, h3⟩ := h
  rcases h2.2 with ⟨e, hn⟩ | ⟨q, cap, cur, e, _, hh, _, _, hs, ht⟩
  · omega
  · injection e with e1 e2 e3
    subst e1
    have hq : q < W.heap.size := (Array.getElem?_eq_some_iff.1 hh).1
    have hzl : (L.zip ds).length = L.length := by rw [List.length_zip, h1]; omega
    have hcell : ∀ i, i < 2 → W.cell? ⟨q, j * 2 + i, none⟩ = (pcells (L[j], ds[j]'(by omega)))[i]? := by
      intro i hi
      rw [cell_of_row W q _ cur _ _ hh]
      have h4 := flat2 pcells (fun x => rfl) (L.zip ds) j i (by omega) hi
      rw [← ht, List.getElem?_take_of_lt (by omega)] at h4
      rw [← Array.getElem?_toList, h4]
      simp
    obtain ⟨hr, hc, hD⟩ := h3 (L[j], ds[j]'(by omega)) (List.mem_iff_getElem.2 ⟨j, by omega, by simp⟩)
    have e0 : ((⟨q, 0, none⟩ : Addr).add (j * 2)) = ⟨q, j * 2, none⟩ := by unfold Addr.add; by_cases k : j * 2 = 0 <;> simp [k]
    refine ⟨⟨q, 0, none⟩, (ds[j]'(by omega)).1, (ds[j]'(by omega)).2, rfl, hq, by rw [e0], ?_, ?_, hr, hc, hD⟩
    all_goals rw [e0]
    · exact hcell 0 (by decide)
    · exact hcell 1 (by decide)
/-- What stands in a sector that is kept. -/
def secL (d : DK) (s : Nat) : List (BitVec 8) := (d.kept.drop (s * d.size)).take d.size
/-- What is read of a sector. -/
def curL (d : DK) (s : Nat) : List (BitVec 8) := if newF d.pend s = 0 then secL d s else (d.pend.getD (newF d.pend s - 1).toNat (0, [])).2
set_option maxHeartbeats 400000
set_option maxRecDepth 100000
section
variable {w : World} {g : Nat} {x : DX} {d : DK}
theorem DiskAt.room (h : DiskAt w g x d) {s : Nat} (hs : s < d.secs) : s * d.size + d.size ≤ d.kept.length ∧ d.kept.length ≤ x.kc ∧ x.kc ≤ maxLen ∧ d.kept.length ≤ 16777216 := by
  have h1 : (s + 1) * d.size ≤ d.secs * d.size := Nat.mul_le_mul_right _ hs
  rw [← h.kl, Nat.succ_mul] at h1
  have h4 : d.kept.length ≤ 16777216 := by
    have := h.kl
    have := Nat.mul_le_mul h.sc.2 h.sz.2
    omega
  rcases h.kept.2 with ⟨e, _⟩ | ⟨q, cap, cur, e, _, _, hnc, hcm, _⟩
  · cases e
  · injection e with _ _ e3
    subst e3
    exact ⟨h1, hnc, hcm, h4⟩
theorem secL_len (h : DiskAt w g x d) {s : Nat} (hs : s < d.secs) : (secL d s).length = d.size := by
  have := (h.room hs).1
  unfold secL; rw [List.length_take, List.length_drop]; omega
theorem dsec_rd (h : DiskAt w g x d) {s : Nat} (hs : s < d.secs) : Rd b8 w w.heap.size (some ⟨x.kb, s * d.size, none⟩) (secL d s) := by
  obtain ⟨h1, h2, _⟩ := h.room hs
  have hz := h.sz.1
  have k := h.kept.rd.cut (k := s * d.size) (cap := x.kc) h2
  rw [cut_some _ _ _ (by omega)] at k
  exact k.take _
theorem dsector_c (h : DiskAt w g x d) (s : Nat) (hs : s < d.secs) : Calls Try.prog 44 #[.pointer (some ⟨g, 0, none⟩), .agg #[.int .i64 s]] w fun e w' => e = .returned (.slice (some ⟨x.kb, s * d.size, none⟩) d.size (x.kc - s * d.size)) ∧ Below w.heap.size w w' := by
  obtain ⟨c0, c1, _⟩ := ((h.blk).alloc (.cells #[.int .i64 (s : Int)] 87)).eight
  have hg : g < (w.alloc (.cells #[.int .i64 (s : Int)] 87)).heap.size := by have := h.blk.lt; simp; omega
  have ch := (Bk.new w 87 #[.int .i64 (s : Int)]).cell 0
  obtain ⟨r1, r2, r3, r4⟩ := h.room hs
  obtain ⟨z1, z2⟩ := h.sz
  unfold maxLen at r3
  obtain ⟨S, hS⟩ : ∃ S, S = d.size := ⟨_, rfl⟩
  obtain ⟨o, ho⟩ : ∃ o, o = s * d.size := ⟨_, rfl⟩
  obtain ⟨L, hL⟩ : ∃ L, L = d.kept.length := ⟨_, rfl⟩
  rw [← hL] at c1 r1 r2 r4
  rw [← ho] at r1 ⊢
  rw [← hS] at c0 r1 z1 z2 ho ⊢
  have hso : (s : Int) * (S : Int) = (o : Int) := by rw [ho]; simp
  have HR := Lib.hid (fun Q a0 => dse_reg Q a0 _ g w.heap.size L S x.kc x.kb s o (L - o) (x.kc - o) hg c0 c1 (by simp) ch hso (by omega) (by omega) (by omega) (by omega) rfl rfl (by omega) (by omega) (by omega) (by omega) (by omega) (by omega) (by omega) (by omega))
  clear h hS ho hL r1 r2 r3 r4 z1 z2 c0 c1 ch hg hso hs
  go_enter Try.func44, Try.ntmps44
  go_wp2_with fail
  refine HR.out _ _ rfl rfl rfl ?_
  intro vals w1 hG h4
  unfold IsV at h4
  simp only [putD, Act.put, List.setIfInBounds_toArray, List.set_cons_zero, List.set_cons_succ, h4]
  have HG := Lib.hid ((Gw.alloc w _).trans (hG.mono (by simp)))
  clear h4 hG
  go_wp2_with fail
  go_ret
  exact ⟨rfl, HG.out⟩
theorem dread_off (h : DiskAt w g x d) (s : Int) (ho : d.off = true) : Calls Try.prog 26 #[.pointer (some ⟨g, 0, none⟩), .int .i64 s] w fun e w' => e = .returned (.tuple #[.slice none 0 0, .int .i64 7]) ∧ w' = w := by
  have c4 := h.blk.eight.2.2.2.2.1
  rw [ho] at c4
  clear h ho
  go_enter Try.func26, Try.ntmps26
  go_wp2_with fail
  go_ret2
  exact ⟨rfl, rfl⟩
theorem dread_bad (h : DiskAt w g x d) (s : Int) (ho : d.off = false) (hs : (decide (0 ≤ s) && decide (s < (d.secs : Int))) = false) : Calls Try.prog 26 #[.pointer (some ⟨g, 0, none⟩), .int .i64 s] w fun e w' => e = .returned (.tuple #[.slice none 0 0, .int .i64 1]) ∧ Below w.heap.size w w' := by
  have c4 := h.blk.eight.2.2.2.2.1
  rw [ho] at c4
  have HH := Lib.hid (dhas_c h s)
  rw [hs] at HH
  clear h ho hs
  go_enter Try.func26, Try.ntmps26
  go_wp2_with fail
  refine Calls.mono HH.out ?_
  rintro e w1 ⟨rfl, b1⟩
  have HB := Lib.hid b1
  clear b1
  go_wp2_with fail
  go_ret2
  exact ⟨rfl, HB.out⟩
/-- New bytes, and that all is well. -/
def NewQ (xs : List (BitVec 8)) (w : World) (e : Ending) (w' : World) : Prop := ∃ A c, e = .returned (.tuple #[.slice A xs.length c, .int .i64 0]) ∧ xs.length ≤ c ∧ Ow b8 5 w' w.heap.size (.slice A xs.length c) xs ∧ Below w.heap.size w w'
theorem dread_ok (h : DiskAt w g x d) (s : Nat) (ho : d.off = false) (hs : s < d.secs) : Calls Try.prog 26 #[.pointer (some ⟨g, 0, none⟩), .int .i64 s] w (NewQ (curL d s) w) := by
  have HH := Lib.hid (dhas_c h s)
  rw [show (decide ((0 : Int) ≤ (s : Int)) && decide ((s : Int) < (d.secs : Int))) = true from by simp; omega] at HH
  have H := Lib.hid h
  have c4 := h.blk.eight.2.2.2.2.1
  rw [ho] at c4
  have hwf : (Lit.int .i64 (s : Int)).wf = true := wfI (by omega) (by have := h.sc; omega)
  have HS := Lib.hid hs
  clear h hs ho
  rcases newF_at d.pend s with hz | ⟨j, hj, hf, hjs⟩
  · have hcur : curL d s = secL d s := by unfold curL; rw [if_pos hz]
    rw [hcur]
    have HLK := Lib.hid (fun W (hb : Below w.heap.size w W) => (H.out.below hb).map.look hwf)
    rw [hz] at HLK
    have HSE := Lib.hid (fun W (hb : Below w.heap.size w W) => dsector_c (H.out.below hb) s HS.out)
    have HRD := Lib.hid (fun W (hb : Below w.heap.size w W) => dsec_rd (H.out.below hb) HS.out)
    have hlen := secL_len H.out HS.out
    have HZ := Lib.hid H.out.sz
    obtain ⟨xs, hxs⟩ : ∃ xs, xs = secL d s := ⟨_, rfl⟩
    rw [← hxs] at hlen HRD ⊢
    unfold NewQ
    rw [hlen]
    have HLN := Lib.hid hlen
    clear hxs hlen hcur hz hwf
    go_enter Try.func26, Try.ntmps26
    go_wp2_with fail
    refine Calls.mono HH.out ?_
    rintro e w1 ⟨rfl, b1⟩
    have HB1 := Lib.hid b1
    have hlk := HLK.out w1 b1
    have c3 := (H.out.below b1).blk.eight.2.2.2.1
    clear b1 HLK
    go_wp2_with fail
    refine Calls.mono (HSE.out w1 HB1.out) ?_
    rintro e w2 ⟨rfl, b2⟩
    have HB2 := Lib.hid (HB1.out.trans (b2.mono HB1.out.size))
    have hc := clone_c xs _ (x.kc - s * d.size) w2 (HRD.out w2 HB2.out) (by have := HLN.out; have := HZ.out; omega)
    unfold NewP at hc
    rw [HLN.out] at hc
    have HC := Lib.hid hc
    clear b2 HSE hc hlk c3
    go_wp2_with fail
    refine Calls.mono HC.out ?_
    rintro e w3 ⟨A, c, rfl, hcc, hoo, hb⟩
    have HO := Lib.hid (And.intro hcc (And.intro (hoo.mono HB2.out.size) (HB2.out.trans (hb.mono HB2.out.size))))
    clear hcc hoo hb HC
    go_wp2_with fail
    go_ret2
    exact ⟨A, c, rfl, HO.out.1, HO.out.2.1, HO.out.2.2⟩
  · have hcur : curL d s = d.pend[j].2 := by
      unfold curL
      rw [if_neg (by omega), hf, show ((j : Int) + 1 - 1).toNat = j by omega, List.getD_eq_getElem?_getD, List.getElem?_eq_getElem hj]
      rfl
    rw [hcur]
    have HLK := Lib.hid (fun W (hb : Below w.heap.size w W) => (H.out.below hb).map.look hwf)
    rw [hf] at HLK
    have hlen := (H.out.pl _ (List.getElem_mem hj)).2
    have HAT := Lib.hid (fun W (hb : Below w.heap.size w W) => (H.out.below hb).pend.at_ j hj)
    have HZ := Lib.hid H.out.sz
    have q1 : (0 : Int) ≤ (j : Int) := by omega
    have q2 : (j : Int) < (d.pend.length : Int) := by omega
    have q3 : (d.pend.length : Int) ≤ 100000 := by have := H.out.lim.1; omega
    obtain ⟨xs, hxs⟩ : ∃ xs, xs = d.pend[j].2 := ⟨_, rfl⟩
    rw [← hxs] at hlen HAT ⊢
    unfold NewQ
    rw [hlen]
    rw [hlen] at HAT
    have HLN := Lib.hid hlen
    have HP := Lib.hid (fun W (hb : Below w.heap.size w W) => (H.out.below hb).blk.eight)
    obtain ⟨P, hP⟩ : ∃ P, P = d.pend.length := ⟨_, rfl⟩
    rw [← hP] at HP q2 q3
    clear hxs hlen hcur hf hjs hwf
    go_enter Try.func26, Try.ntmps26
    go_wp2_with fail
    refine Calls.mono HH.out ?_
    rintro e w1 ⟨rfl, b1⟩
    have HB1 := Lib.hid b1
    have hlk := HLK.out w1 b1
    obtain ⟨_, _, c2, c3, _⟩ := HP.out w1 b1
    obtain ⟨ad, Aj, cj, hA, hab, hab2, d1, d2, hrd, hcj, _⟩ := HAT.out w1 b1
    rw [hA] at c2
    have hc := clone_c xs Aj cj w1 hrd (by have := HLN.out; have := HZ.out; omega)
    unfold NewP at hc
    rw [HLN.out] at hc
    have HC := Lib.hid hc
    have tj : decide ((0 : Int) < (j : Int) + 1) = true := by first | (simp; done) | (simp; omega)
    clear b1 HLK HAT HP hA hrd hcj hc hab hab2 hP
    go_wp2_with fail
    refine Calls.mono HC.out ?_
    rintro e w3 ⟨A, c, rfl, hcc, hoo, hb⟩
    have HO := Lib.hid (And.intro hcc (And.intro (hoo.mono HB1.out.size) (HB1.out.trans (hb.mono HB1.out.size))))
    clear hcc hoo hb HC
    go_wp2_with fail
    go_ret2
    exact ⟨A, c, rfl, HO.out.1, HO.out.2.1, HO.out.2.2⟩
end
end Go.Proofs.Ytjcpbhjmmnpjnaa
