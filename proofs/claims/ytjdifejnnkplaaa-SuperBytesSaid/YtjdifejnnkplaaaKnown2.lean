/- What loamlaw2.known answers: true. No conditions. -/
import Derived.Test.YtjdifejnnkplaaaCrcC
import Derived.Lib.SmallJoins
namespace Go.Proofs.Ytjdifejnnkplaaa
set_option linter.unusedVariables false
set_option linter.unusedSimpArgs false
open Go.RowKit
def l1234 : List (BitVec 8) := [49, 50, 51, 52]
def l5 : List (BitVec 8) := [53, 54, 55, 56, 57]
def lx : List (BitVec 8) := [120]
def labc : List (BitVec 8) := [97, 98, 99]
/-- Block g has the cells cs, whatever of it is frozen. -/
def Fk (w : World) (g : Nat) (E : TypeId) (cs : Array Value) : Prop := ∃ fr, w.heap[g]? = some (.cells cs E fr)
section
variable {W W' : World} {g B : Nat} {E : TypeId} {cs : Array Value}
theorem fk_at {fr : Nat × Nat} (h : g = W.heap.size) : Fk (W.alloc (.cells cs E fr)) g E cs := h ▸ ⟨fr, heap_alloc_new W _⟩
theorem Fk.lt (h : Fk W g E cs) : g < W.heap.size := by
  obtain ⟨fr, h⟩ := h
  rcases Nat.lt_or_ge g W.heap.size with hl | hl
  · exact hl
  · rw [Array.getElem?_eq_none hl] at h; cases h
theorem Fk.alloc (h : Fk W g E cs) (o : Obj) : Fk (W.alloc o) g E cs := ⟨h.choose, (Below.heap_alloc W o g h.lt).trans h.choose_spec⟩
theorem Fk.drew (h : Fk W g E cs) : Fk W.drew g E cs := h
theorem Fk.drewN (h : Fk W g E cs) (n : Nat) : Fk (W.drewN n) g E cs := h
theorem Fk.below (h : Fk W g E cs) (hb : Below B W W') (hg : g < B) : Fk W' g E cs := ⟨h.choose, (hb.block g hg).trans h.choose_spec⟩
theorem Fk.rd {α : Type} {f : α → Value} {xs : List α} (h : Fk W g E cs) (e : cs = (xs.map f).toArray) (hB : g < B) : Rd f W B (some ⟨g, 0, none⟩) xs := fun j hj => by
  refine ⟨_, rfl, hB, ?_⟩
  have e2 : ((⟨g, 0, none⟩ : Addr).add j) = ⟨g, j, none⟩ := by unfold Addr.add; split <;> simp_all
  rw [e2, Joins.cell_of_block h.choose_spec, e]
  simp [hj]
end
theorem kc_at (w : World) (C : Array Value) (n c g : Nat) (hg : g = w.heap.size) : (convert 29 29 (.slice (some ⟨g, 0, none⟩) n c)).run Try.prog (w.alloc (.cells C 5)) = .ok (.slice (some ⟨g, 0, none⟩) n c) (w.alloc (.cells C 5 (C.size, C.size + 1))) :=
  Joins.run_convert_bytes_const_at w 29 5 C n c g hg Try.underlying29 Try.underlying5
attribute [local go_sem] kc_at
theorem right_short (A : Option Addr) (n c : Nat) (w : World) (hn : (n : Int) < 4) : Calls Try.prog 23 #[.slice A n c] w (RetP (.bool false) w) := by
  go_enter Try.func23, Try.ntmps23
  go_wp2
  go_ret
  exact ret_b rfl (by repeat (first | with_reducible assumption | with_reducible exact Below.refl _ _ | with_reducible apply bdN | with_reducible apply Below.drew | with_reducible refine Below.alloc ?_ (by simp) _ | with_reducible refine Below.setCell ?_ (by simp) _))
theorem k_sum2 (w : World) (g1 g2 g3 : Nat) (h1 : Fk w g1 5 #[.int .u8 49, .int .u8 50, .int .u8 51, .int .u8 52]) (h2 : Fk w g2 5 #[.int .u8 53, .int .u8 54, .int .u8 55, .int .u8 56, .int .u8 57]) (h3 : Fk w g3 29 #[.slice (some ⟨g1, 0, none⟩) 4 4, .slice (some ⟨g2, 0, none⟩) 5 5]) :
    Calls Try.prog 32 #[.slice (some ⟨g3, 0, none⟩) 2 2] w (RetP (.int .u32 3421780262) w) := by
  have h := sum_c [((some ⟨g1, 0, none⟩, l1234, 4) : Pt), ((some ⟨g2, 0, none⟩, l5, 5) : Pt)] (some ⟨g3, 0, none⟩) 2 w (h3.rd rfl h3.lt) (by
    intro p hp
    simp only [List.mem_cons, List.not_mem_nil, or_false] at hp
    rcases hp with rfl | rfl
    · exact ⟨h1.rd (by kernel_rfl) h1.lt, by simp [l1234]⟩
    · exact ⟨h2.rd (by kernel_rfl) h2.lt, by simp [l5]⟩) (by simp)
  have e : U32 (sumC (List.map Pt.l [((some ⟨g1, 0, none⟩, l1234, 4) : Pt), ((some ⟨g2, 0, none⟩, l5, 5) : Pt)])) = 3421780262 := by
    show U32 (addC (addC 0 l1234) l5) = _
    decide +kernel
  rw [e] at h
  exact h
theorem sum1_f (bs : List (BitVec 8)) (A : Option Addr) (c g : Nat) (w : World) (E : TypeId) (hk : Fk w g E #[.slice A bs.length c]) (hr : Rd b8 w w.heap.size A bs) (hl : bs.length ≤ 2147483648) :
    Calls Try.prog 32 #[.slice (some ⟨g, 0, none⟩) 1 1] w (RetP (.int .u32 (U32 (addC 0 bs))) w) := by
  refine sum_c [((A, bs, c) : Pt)] (some ⟨g, 0, none⟩) 1 w (hk.rd rfl hk.lt) ?_ (by simp)
  intro p hp
  rw [List.mem_singleton] at hp
  subst hp
  exact ⟨hr, hl⟩
theorem k_sum1 (w : World) (g1 g3 : Nat) (h1 : Fk w g1 5 #[.int .u8 49, .int .u8 50, .int .u8 51, .int .u8 52]) (h3 : Fk w g3 29 #[.slice (some ⟨g1, 0, none⟩) 4 4]) :
    Calls Try.prog 32 #[.slice (some ⟨g3, 0, none⟩) 1 1] w (RetP (.int .u32 (U32 (addC 0 l1234))) w) :=
  sum1_f l1234 (some ⟨g1, 0, none⟩) 4 g3 w 29 h3 (h1.rd (by kernel_rfl) h1.lt) (by decide)
theorem k_add (w : World) (g2 : Nat) (h2 : Fk w g2 5 #[.int .u8 53, .int .u8 54, .int .u8 55, .int .u8 56, .int .u8 57]) :
    Calls Try.prog 39 #[.int .u32 (U32 (addC 0 l1234)), .slice (some ⟨g2, 0, none⟩) 5 5] w (RetP (.int .u32 3421780262) w) := by
  have h := add_c (addC 0 l1234) l5 (some ⟨g2, 0, none⟩) 5 w (h2.rd (by kernel_rfl) h2.lt) (by decide)
  rw [show U32 (addC (addC 0 l1234) l5) = 3421780262 from by decide +kernel] at h
  exact h
theorem k_sealx (w : World) (g : Nat) (h : Fk w g 5 #[.int .u8 120]) : Calls Try.prog 20 #[.slice (some ⟨g, 0, none⟩) 1 1] w fun e w' => ∃ A c, e = .returned (.slice A 5 c) ∧ 5 ≤ c ∧ Rd b8 w' w'.heap.size A (sealC lx) ∧ Below w.heap.size w w' := by
  refine (seal_c lx (some ⟨g, 0, none⟩) 1 w (h.rd (by kernel_rfl) h.lt) (by decide)).mono ?_
  rintro e w' ⟨A, c, rfl, hc, ho, hb⟩
  exact ⟨A, c, rfl, hc, ho.rd, hb⟩
theorem k_seal0 (w : World) : Calls Try.prog 20 #[.slice none 0 0] w fun e w' => ∃ A c, e = .returned (.slice A 4 c) ∧ Below w.heap.size w w' := by
  refine (seal_c [] none 0 w Rd.nil (by decide)).mono ?_
  rintro e w' ⟨A, c, rfl, hc, ho, hb⟩
  exact ⟨A, c, rfl, hb⟩
theorem skA {w W : World} (h : Below w.heap.size w W ∧ w.heap.size ≤ W.heap.size) (o : Obj) : Below w.heap.size w (W.alloc o) ∧ w.heap.size ≤ (W.alloc o).heap.size := ⟨h.1.alloc h.2 o, by simp; omega⟩
theorem skD {w W : World} (h : Below w.heap.size w W ∧ w.heap.size ≤ W.heap.size) : Below w.heap.size w W.drew ∧ w.heap.size ≤ W.drew.heap.size := ⟨h.1.drew, h.2⟩
theorem skB {w W W' : World} (h : Below w.heap.size w W ∧ w.heap.size ≤ W.heap.size) (hb : Below W.heap.size W W') : Below w.heap.size w W' ∧ w.heap.size ≤ W'.heap.size := ⟨h.1.trans (hb.mono h.2), Nat.le_trans h.2 hb.size⟩
theorem right4_seal (xs : List (BitVec 8)) : right4 xs ((addC 0 xs).setWidth 8) ((addC 0 xs >>> 8).setWidth 8) ((addC 0 xs >>> 16).setWidth 8) ((addC 0 xs >>> 24).setWidth 8) = true := by simp [right4]
theorem right_seal (xs : List (BitVec 8)) (A : Option Addr) (c n : Nat) (w : World) (hr : Rd b8 w w.heap.size A (sealC xs)) (hn : n = xs.length + 4) (hc : n ≤ c) (hl : xs.length ≤ 1073741824) :
    Calls Try.prog 23 #[.slice A n c] w (RetP (.bool true) w) := by
  subst hn
  have h := right_c xs _ _ _ _ A c w hr hc hl
  rw [right4_seal] at h
  exact h
set_option maxHeartbeats 800000
set_option maxRecDepth 100000
end Go.Proofs.Ytjdifejnnkplaaa
