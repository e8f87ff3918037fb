/- What loamlaw13.known answers: true. No conditions. -/
import Derived.Test.YtobcpcobgdmleaaMmI
import Derived.Test.YtobcpcobgdmleaaStr
namespace Go.Proofs.Ytobcpcobgdmleaa
set_option linter.unusedVariables false
set_option linter.unusedSimpArgs false
open Go.RowKit
def kX : BitVec 64 := 578437695752307201#64
def kY : BitVec 64 := 578437695752307209#64
theorem k_new (w : World) : Calls Try.prog 20 #[.int .i64 4] w fun e w' => ∃ g v, e = .returned (.tuple #[.pointer (some ⟨g, 0, none⟩), .int .i64 0]) ∧ MemAt w' w.heap.size g v [0#64, 0#64, 0#64, 0#64] ∧ Below w.heap.size w w' := new_in w 4 (by decide)
theorem k_set (w : World) (B g : Nat) (v : Value) (h : MemAt w B g v [0#64, 0#64, 0#64, 0#64]) : Calls Try.prog 10 #[.pointer (some ⟨g, 0, none⟩), .int .i64 1, .int .u64 578437695752307201] w fun e w' => e = .returned (.int .i64 0) ∧ MemAt w' B g v [0#64, kX, 0#64, 0#64] ∧ w.grownBy w' v.ownBlock := by
  have k := set_in w B g v _ 1 kX (by decide) (by decide) h
  rw [show U64 kX = 578437695752307201 from by decide +kernel] at k
  exact k
theorem k_bytes (w : World) (B g : Nat) (v : Value) (h : MemAt w B g v [0#64, kX, 0#64, 0#64]) : Calls Try.prog 15 #[.pointer (some ⟨g, 0, none⟩), .int .i64 7, .int .i64 3] w fun e w' => ∃ A c, e = .returned (.tuple #[.slice A 3 c, .int .i64 0]) ∧ Rd b8 w' w'.heap.size A [0#8, 1#8, 2#8] ∧ Below w.heap.size w w' ∧ ∀ x, A = some x → w.heap.size ≤ x.block := by
  have k := bytes_in w B g v _ 7 3 (by decide) (by decide) h
  rw [show bytesM [0#64, kX, 0#64, 0#64] 7 3 = [0#8, 1#8, 2#8] from by decide +kernel] at k
  refine k.mono ?_
  rintro e w' ⟨A, c, rfl, hc, ho, hb⟩
  exact ⟨A, c, rfl, ho.rd, hb, fun x e => (ho.lt x.block (by rw [e]; rfl)).1⟩
theorem k_sb (w : World) (B g q c : Nat) (v : Value) (h : MemAt w B g v [0#64, kX, 0#64, 0#64]) (hr : Rd b8 w w.heap.size (some ⟨q, 0, none⟩) [9#8]) (hq : some q ≠ v.ownBlock) : Calls Try.prog 11 #[.pointer (some ⟨g, 0, none⟩), .int .i64 8, .slice (some ⟨q, 0, none⟩) 1 c] w fun e w' => e = .returned (.int .i64 0) ∧ MemAt w' B g v [0#64, kY, 0#64, 0#64] ∧ w.grownBy w' v.ownBlock := by
  have k := setBytes_in w B g v _ 8 _ c _ (by decide) (by decide) h hr (fun _ x e => by injection e with e; subst e; exact hq)
  rw [show putK [0#64, kX, 0#64, 0#64] 8 [9#8] [9#8].length = [0#64, kY, 0#64, 0#64] from by decide +kernel] at k
  exact k
theorem k_get (w : World) (B g : Nat) (v : Value) (h : MemAt w B g v [0#64, kY, 0#64, 0#64]) : Calls Try.prog 21 #[.pointer (some ⟨g, 0, none⟩), .int .i64 1] w fun e w' => e = .returned (.tuple #[.int .u64 578437695752307209, .int .i64 0]) ∧ w' = w := by
  have k := get_in w B g v _ 1 (by decide) (by decide) h
  rw [show U64 ([0#64, kY, 0#64, 0#64][1]) = 578437695752307209 from by decide +kernel] at k
  exact k
theorem k_move (w : World) (B g : Nat) (v : Value) (h : MemAt w B g v [0#64, kY, 0#64, 0#64]) : Calls Try.prog 14 #[.pointer (some ⟨g, 0, none⟩), .int .i64 0, .int .i64 1, .int .i64 3] w fun e w' => e = .returned (.int .i64 0) ∧ MemAt w' B g v [kY, 0#64, 0#64, 0#64] ∧ w.grownBy w' v.ownBlock := move_in w B g v _ 0 1 3 (by decide) (by decide) (by decide) h
theorem k_bad (w : World) (B g : Nat) (v : Value) (h : MemAt w B g v [kY, 0#64, 0#64, 0#64]) : Calls Try.prog 21 #[.pointer (some ⟨g, 0, none⟩), .int .i64 4] w fun e w' => e = .returned (.tuple #[.int .u64 0, .int .i64 1]) ∧ w' = w := get_out w B g v _ 4 (by decide) (by decide) (by decide) (by decide) h
theorem k_words (w : World) (B g : Nat) (v : Value) (h : MemAt w B g v [kY, 0#64, 0#64, 0#64]) : Calls Try.prog 18 #[.pointer (some ⟨g, 0, none⟩)] w fun e w' => ∃ q c, e = .returned (.slice (some ⟨q, 0, none⟩) 4 c) ∧ w'.cell? ⟨q, 0, none⟩ = some (.int .u64 578437695752307209) ∧ Below w.heap.size w w' := by
  refine (words_c w B g v _ h (by decide)).mono ?_
  rintro e w' ⟨A, c, rfl, hc, ho, hb⟩
  obtain ⟨q, rfl⟩ : ∃ q, A = some ⟨q, 0, none⟩ := by
    rcases ho.2 with ⟨e, hn⟩ | ⟨q, _, _, e, _⟩
    · cases hn
    · injection e with e
      exact ⟨q, e⟩
  refine ⟨q, c, rfl, ?_, hb⟩
  rw [ho.cell (j := 0) (by decide)]
  exact congrArg (fun i => some (Value.int .u64 i)) (by decide +kernel)
theorem k_len (w : World) (B g : Nat) (v : Value) (h : MemAt w B g v [kY, 0#64, 0#64, 0#64]) : Calls Try.prog 23 #[.pointer (some ⟨g, 0, none⟩)] w fun e w' => e = .returned (.int .i64 4) ∧ w' = w := len_c w B g v _ h
theorem k9 (w : World) (E : TypeId) : Rd b8 (w.alloc (.cells #[.int .u8 9] E)) (w.alloc (.cells #[.int .u8 9] E)).heap.size (some ⟨w.heap.size, 0, none⟩) [9#8] := (rd1_new (f := b8) (y := 9#8) (u := .int .u8 9) rfl).more (by simp)
theorem k012_str : strB [0#8, 1#8, 2#8] = { data := #[0, 1, 2] } := by kernel_rfl
theorem k012 {A : Option Addr} {c : Nat} {w : World} {B : Nat} (h : Rd b8 w B A [0#8, 1#8, 2#8]) : (convert 30 9 (.slice A 3 c)).run Try.prog w = .ok (.string { data := #[0, 1, 2] }) w := by
  have k := str_conv _ A c B w h
  rw [k012_str] at k
  exact k
theorem k012_eq : (({ data := #[0, 1, 2] } : ByteArray).toList == ({ data := #[0, 1, 2] } : ByteArray).toList) = true := beq_self_eq_true _
set_option maxHeartbeats 400000
set_option maxRecDepth 100000
theorem known13_c (w : World) : Calls Try.prog 8 #[] w (RetP (.bool true) w) := by
  go_enter Try.func8, Try.ntmps8
  go_wp2_with fail
  refine Calls.mono (k_new w) ?_
  rintro e w1 ⟨g, v, rfl, h1, b1⟩
  have HB1 := Lib.hid b1
  clear b1
  go_wp2_with fail
  refine Calls.mono (k_set _ _ _ _ h1) ?_
  rintro e w2 ⟨rfl, h2, g2⟩
  have HB2 := Lib.hid (HB1.out.trans (h1.own g2))
  clear h1 g2 HB1
  go_wp2_with fail
  refine Calls.mono (k_bytes _ _ _ _ h2) ?_
  rintro e w3 ⟨A3, c3, rfl, r3, b3, a3⟩
  have h3 := h2.below b3
  have HB3 := Lib.hid (HB2.out.trans (b3.mono h2.le))
  have HA3 := Lib.hid (show ∀ x, A3 = some x → some x.block ≠ v.ownBlock from fun x e e2 => by have h1 := a3 x e; have h2 := (h2.row.lt x.block e2.symm).2; omega)
  have HR3 := Lib.hid r3
  clear h2 b3 a3 r3 HB2
  go_wp2_with fail
  have hq : some w3.heap.size ≠ v.ownBlock := fun e => by have := (h3.row.lt _ e.symm).2; omega
  refine Calls.mono (k_sb _ _ g w3.heap.size 1 v (h3.below (Gw.alloc w3 _)) (k9 _ _) hq) ?_
  rintro e w4 ⟨rfl, h4, g4⟩
  have hb4 := Gw.alloc w3 (.cells #[.int .u8 9] 5)
  have HR4 := Lib.hid (((HR3.out.below hb4).more hb4.size).grown g4 HA3.out)
  have HB4 := Lib.hid ((HB3.out.trans (hb4.mono h3.le)).trans ((h3.below hb4).own g4))
  clear hq h3 g4 hb4 HR3 HB3
  go_wp2_with fail
  refine Calls.mono (k_get _ _ _ _ h4) ?_
  rintro e w5 ⟨rfl, rfl⟩
  go_wp2_with fail
  refine Calls.mono (k_move _ _ _ _ h4) ?_
  rintro e w6 ⟨rfl, h6, g6⟩
  have HR6 := Lib.hid (HR4.out.grown g6 HA3.out)
  have HB6 := Lib.hid (HB4.out.trans (h4.own g6))
  clear h4 g6 HR4 HB4
  go_wp2_with fail
  refine Calls.mono (k_bad _ _ _ _ h6) ?_
  rintro e w7 ⟨rfl, rfl⟩
  go_wp2_with fail
  refine Calls.mono (k_words _ _ _ _ h6) ?_
  rintro e w8 ⟨q, c8, rfl, hc8, b8'⟩
  have h8 := h6.below b8'
  have HB8 := Lib.hid (HB6.out.trans (b8'.mono h6.le))
  have q1 := k012 (c := c3) (HR6.out.below b8')
  have q0 := k012_eq
  have HL := Lib.hid (k_len _ _ _ _ h8)
  clear h6 b8' h8 HR6 HB6
  go_wp2_with fail
  refine Calls.mono HL.out ?_
  rintro e w9 ⟨rfl, rfl⟩
  go_wp2_with fail
  go_ret
  exact ⟨rfl, HB8.out⟩
end Go.Proofs.Ytobcpcobgdmleaa
