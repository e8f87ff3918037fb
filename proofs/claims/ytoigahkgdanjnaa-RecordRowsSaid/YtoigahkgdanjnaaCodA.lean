/- What codec.Enc's Bytes answers; the last region of loamlaw5.known. Conditions: lengths. -/
import Derived.Test.YtoigahkgdanjnaaDecE
import Derived.Lib.SmallJoins
namespace Go.Proofs.Ytoigahkgdanjnaa
set_option linter.unusedVariables false
set_option linter.unusedSimpArgs false
open Go.RowKit
theorem EncAt.below {w w' : World} {B g : Nat} {v : Value} {bs : List (BitVec 8)} (h : EncAt w B g v bs) (hb : Below w.heap.size w w') : EncAt w' B g v bs := ⟨h.blk.below hb h.blk.lt, h.ge, h.row.below hb, h.ne⟩
theorem Bk.only {w w' : World} {g d : Nat} {E : TypeId} {cs : Array Value} (h : Bk w g E cs) (ho : Only w w' d) (hne : g ≠ d) : Bk w' g E cs := (ho.block g h.lt hne).trans h
/-- Block g holds a writer of the bytes bs; of w0 all below B is as it was. -/
def EncS (w0 : World) (B g : Nat) (bs : List (BitVec 8)) (w : World) : Prop := ∃ v, EncAt w B g v bs ∧ Below B w0 w
theorem EncS.below {w0 w w' : World} {B g : Nat} {bs : List (BitVec 8)} (h : EncS w0 B g bs w) (hb : Below w.heap.size w w') : EncS w0 B g bs w' := by
  obtain ⟨v, h1, h2⟩ := h
  exact ⟨v, h1.below hb, h2.trans (hb.mono (Nat.le_trans h1.ge (Nat.le_of_lt h1.blk.lt)))⟩
theorem EncS.new (w : World) : EncS w w.heap.size w.heap.size [] (w.alloc (.cells #[.slice none 0 0] 51)) :=
  ⟨.slice none 0 0, ⟨Bk.new w _ _, Nat.le_refl _, Ow.nil_ _ _ _ _, by intro h; cases h⟩, (Below.refl _ _).alloc (Nat.le_refl _) _⟩
theorem EncS.uint {w0 w : World} {B g : Nat} {bs : List (BitVec 8)} (x : BitVec 64) (h : EncS w0 B g bs w) (hl : bs.length ≤ 1073741824) :
    Calls Try.prog 16 #[.pointer (some ⟨g, 0, none⟩), .int .u64 (U64 x)] w fun e w' => e = .returned (.tuple #[]) ∧ EncS w0 B g (bs ++ uintL x) w' := by
  obtain ⟨v, h1, h2⟩ := h
  refine (enc_uint w B g v bs x h1 hl).mono ?_
  rintro e w' ⟨rfl, v', h3, h4⟩
  exact ⟨rfl, v', h3, h2.trans (h4.below h1)⟩
theorem EncS.apart {w0 w : World} {B g k : Nat} {bs : List (BitVec 8)} {v : Value} (h : EncAt w B g v bs) (hk : w.heap.size ≤ k) : k ≠ g ∧ v.ownBlock ≠ some k := by
  refine ⟨fun e => by have := h.blk.lt; omega, fun e => ?_⟩
  have := (h.row.lt k e).2
  omega
theorem EncS.raw {w0 w w2 : World} {B g k : Nat} {bs : List (BitVec 8)} (xs : List (BitVec 8)) (c : Nat) (h : EncS w0 B g bs w) (hb : Below w.heap.size w w2) (hk : w.heap.size ≤ k) (hr : Rd b8 w2 w2.heap.size (some ⟨k, 0, none⟩) xs) (hl : bs.length ≤ 536870912) (hx : xs.length ≤ 536870912) :
    Calls Try.prog 17 #[.pointer (some ⟨g, 0, none⟩), .slice (some ⟨k, 0, none⟩) xs.length c] w2 fun e w' => e = .returned (.tuple #[]) ∧ EncS w0 B g (bs ++ (uintL (BitVec.ofNat 64 xs.length) ++ xs)) w' := by
  obtain ⟨v, h1, h2⟩ := h
  have hap := EncS.apart (w0 := w0) h1 hk
  have h1' := h1.below hb
  have h2' : Below B w0 w2 := h2.trans (hb.mono (Nat.le_trans h1.ge (Nat.le_of_lt h1.blk.lt)))
  refine (enc_raw w2 B g v bs (some ⟨k, 0, none⟩) c xs h1' hr (fun _ a e => by cases e; exact hap) hl hx).mono ?_
  rintro e w' ⟨rfl, v', h3, h4⟩
  exact ⟨rfl, v', h3, h2'.trans (h4.below h1')⟩
/-- Block g holds a writer of bytes that are read. -/
def EncR (g : Nat) (bs : List (BitVec 8)) (w : World) : Prop := ∃ A c, Bk w g 51 #[.slice A bs.length c] ∧ Rd b8 w w.heap.size A bs
theorem EncS.out {w0 w : World} {B g : Nat} {bs : List (BitVec 8)} (h : EncS w0 B g bs w) : EncR g bs w ∧ Below B w0 w ∧ B ≤ g ∧ g < w.heap.size := by
  obtain ⟨v, h1, h2⟩ := h
  obtain ⟨A, c, e, hc⟩ := h1.row.form
  subst e
  exact ⟨⟨A, c, h1.blk, h1.row.rd⟩, h2, h1.ge, h1.blk.lt⟩
theorem EncR.below {w w' : World} {g : Nat} {bs : List (BitVec 8)} (h : EncR g bs w) (hb : Below w.heap.size w w') : EncR g bs w' := by
  obtain ⟨A, c, h1, h2⟩ := h
  exact ⟨A, c, h1.below hb h1.lt, (h2.below hb).more hb.size⟩
theorem EncR.only {w w' : World} {g d B : Nat} {bs : List (BitVec 8)} (h : ∃ A c, Bk w g 51 #[.slice A bs.length c] ∧ Rd b8 w B A bs) (ho : Only w w' d) (hB : B ≤ d) (hg : g ≠ d) : ∃ A c, Bk w' g 51 #[.slice A bs.length c] ∧ Rd b8 w' B A bs := by
  obtain ⟨A, c, h1, h2⟩ := h
  refine ⟨A, c, h1.only ho hg, fun j hj => ?_⟩
  obtain ⟨ad, e, hb, hc⟩ := h2 j hj
  refine ⟨ad, e, hb, ?_⟩
  rw [← hc]
  rcases Nat.lt_or_ge ad.block w.heap.size with hl | hl
  · exact World.cell?_of_block (by rw [add_block]; exact ho.block _ hl (by omega))
  · have hn : w.cell? (ad.add j) = none := by
      unfold World.cell?
      rw [add_block, Array.getElem?_eq_none hl]
    rw [hn] at hc
    cases hc
theorem enc_bytes (w : World) (g : Nat) (bs : List (BitVec 8)) (h : EncR g bs w) (hl : bs.length ≤ 1073741824) : Calls Try.prog 19 #[.pointer (some ⟨g, 0, none⟩)] w (CloneP bs w) := by
  obtain ⟨A, c, hk, hr⟩ := h
  have c0 := hk.cell 0
  have hgl := hk.lt
  have HC := Lib.hid (clone_c bs A c w hr hl)
  obtain ⟨N, hN⟩ : ∃ N, N = bs.length := ⟨_, rfl⟩
  rw [← hN] at c0 HC
  have HN := Lib.hid hN
  clear hk hr hN
  go_enter Try.func19, Try.ntmps19
  go_wp2_with fail
  refine Calls.mono HC.out ?_
  rintro e w1 ⟨A2, c2, rfl, h2, r2, b2, a2⟩
  go_wp2_with fail
  go_ret
  exact ⟨A2, c2, rfl, h2, r2, b2, a2⟩
end Go.Proofs.Ytoigahkgdanjnaa
