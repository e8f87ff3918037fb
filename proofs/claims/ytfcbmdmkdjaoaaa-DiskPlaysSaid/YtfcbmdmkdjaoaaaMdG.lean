/- The write of the document's disk (loamlaw3.model) that waits: the walk. Conditions: lengths. -/
import Derived.Test.YtfcbmdmkdjaoaaaMdF
namespace Go.Proofs.Ytfcbmdmkdjaoaaa
set_option linter.unusedVariables false
set_option linter.unusedSimpArgs false
open Go.RowKit Go.Maps
set_option maxRecDepth 100000
set_option maxHeartbeats 8000000
theorem WRow.one (w : World) (E : TypeId) (s : Nat) (b : List (BitVec 8)) (BB : ByteArray) (e : BB = strB b) : WRow (w.alloc (.cells #[.int .i64 s, .string BB] E)) (w.heap.size + 1) (some ⟨w.heap.size, 0, none⟩) [(s, b)] := fun k hk => by
  obtain rfl : k = 0 := by simpa using hk
  subst e
  have hb := Bk.new w E #[.int .i64 s, .string (strB b)]
  exact ⟨⟨w.heap.size, 0, none⟩, rfl, Nat.lt_succ_self _, hb.cell 0, hb.cell 1⟩
theorem WRow.below {W W' : World} {B : Nat} {A : Option Addr} {l : List PW} (h : WRow W B A l) (hb : Below B W W') : WRow W' B A l := fun k hk => by
  obtain ⟨ad, e, e1, e2, e3⟩ := h k hk
  exact ⟨ad, e, e1, (hb.cell (by rw [add_block]; exact e1)).trans e2, (hb.cell (p := ⟨(ad.add (k * 2)).block, (ad.add (k * 2)).off + 1, none⟩) (by show (ad.add (k * 2)).block < _; rw [add_block]; exact e1)).trans e3⟩
def Mod.push (m : Mod) (s : Nat) (b : List (BitVec 8)) : Mod := { m with wait := m.wait ++ [(s, b)], writes := m.writes + 1 }
/-- The end of a write that waits. -/
theorem mpush_end {w w0 w3 W : World} {g : Nat} {x : ModX} {m : Mod} (h : MdAt w g x m) (hb : Below w.heap.size w w3) (s : Nat) (b : List (BitVec 8)) (A5 : Option Addr) (n5 c5 : Nat) (hn5 : n5 = (m.wait ++ [(s, b)]).length)
    (ho : w3.ownsRow w.heap.size 72 2 (.slice A5 n5 c5) (m.wait ++ [(s, b)]).length ((m.wait ++ [(s, b)]).flatMap wc2))
    (hW : W = (w3.setCell ⟨g, 2, none⟩ (.slice A5 n5 c5)).setCell ⟨g, 7, none⟩ (.int .i64 (m.writes + 1 : Nat))) : ((∀ a, A5 = some a → w.heap.size ≤ a.block) ∧ MdAt W g { x with wA := A5, wc := c5 } (m.push s b)) ∧ Kept (fun k => k = g) w W := by
  have hk3 : Kept (fun k => k = g) w3 W := by rw [hW]; exact (Kept.set _ g 2 _).trans (Kept.set _ g 7 _)
  have hk : Kept (fun k => k = g) w W := (Kept.of_below hb _).trans hk3
  have hlg : g < w.heap.size := h.blk.lt
  have hne : ∀ q, (Value.slice A5 n5 c5).ownBlock = some q → ¬ q = g := fun q e => by
    have := (World.ownsRow.lt ho q e).1
    omega
  have hoW := hk3.row ho hne
  refine ⟨⟨fun a e => (World.ownsRow.lt ho a.block (by have e : A5 = some a := e; rw [e]; rfl)).1, ⟨?_, hk.rd h.kept (fun a e => h.apart.1 a e), WRow.of_owns hoW, hk.rde h.keep (fun a e e1 => h.apart.2.2 a e e1), ⟨h.apart.1, fun a e => ?_, h.apart.2.2⟩⟩⟩, hk⟩
  · rw [hW, hn5]
    exact (((h.blk.below hb hlg).set 2 _).set 7 _)
  · exact hne a.block (by
      have e : A5 = some a := e
      rw [e]; rfl)
theorem mwrite_push {w : World} {g : Nat} {x : ModX} {m : Mod} (h : MdAt w g x m) (ho : m.off = false) (ha : m.armed = false) (hn : m.kept.length ≤ 16384) (hw : m.wait.length ≤ 1000000) (hwr : m.writes ≤ 1000000) (s : Nat) (b : List (BitVec 8)) (hs : s < m.kept.length) (hb : b.length = m.size) :
    Calls Try.prog 11 #[.pointer (some ⟨g, 0, none⟩), .int .i64 s, .string (strB b)] w fun e w' => e = .returned (.int .i64 0) ∧ (∃ A5 c5, (∀ a, A5 = some a → w.heap.size ≤ a.block) ∧ MdAt w' g { x with wA := A5, wc := c5 } (m.push s b)) ∧ Kept (fun k => k = g) w w' := by
  have H := Lib.hid h
  have hsz : (strB b).size = m.size := by rw [← hb]; simp [strB, strL, ByteArray.size]
  obtain ⟨BB, hBB⟩ : ∃ q, q = strB b := ⟨_, rfl⟩
  rw [← hBB] at hsz ⊢
  obtain ⟨n, hnn⟩ : ∃ n, n = m.kept.length := ⟨_, rfl⟩
  obtain ⟨NW, hNW⟩ : ∃ n, n = m.wait.length := ⟨_, rfl⟩
  obtain ⟨wn, hwn⟩ : ∃ n, n = m.writes := ⟨_, rfl⟩
  obtain ⟨S, hS⟩ : ∃ q, q = m.size := ⟨_, rfl⟩
  obtain ⟨c0, c1, c2, c3, c4, c5, c6, c7⟩ := h.blk.eight
  rw [ho] at c3
  rw [ha] at c4
  rw [← hnn] at c1 hs
  rw [← hNW] at c2
  rw [← hS] at c0 hsz
  have HM := Lib.hid (show NW = m.wait.length ∧ NW ≤ 1000000 ∧ wn = m.writes ∧ wn ≤ 1000000 from ⟨hNW, by omega, hwn, by omega⟩)
  have HBB := Lib.hid hBB
  have hlg : g < w.heap.size := h.blk.lt
  have p0 : (0 : Int) ≤ (s : Int) := by omega
  have p1 : (s : Int) < (n : Int) := by omega
  have e2 : (w.alloc (.cells #[] 72)).cell? ⟨g, 2, none⟩ = some (.slice x.wA NW x.wc) := by rw [hNW]; exact (h.blk.alloc _).cell 2
  have HE := Lib.hid (owns_empty2 w 72 w.heap.size (Nat.le_refl _))
  have HB := Lib.hid ((Below.refl w.heap.size w).alloc (Nat.le_refl _) (.cells #[] 72))
  clear h ho ha hn hw hwr hs hb hBB hnn hNW hwn hS
  go_enter Try.func11, Try.ntmps11
  go_wp2_with (first
    | (at_builtin; refine wp_appW rfl (.tmp 54) (.tmp 58) rfl w.heap.size _ [] rfl HE.out x.wA NW x.wc m.wait rfl HM.out.1 w.heap.size (H.out.wait.below HB.out) (by have := HM.out.1; have := HM.out.2.1; simp; omega) HB.out.size ?_; intro v1 w1 ho1 hb1 _ _; have HO1 := Lib.hid (And.intro ho1 (HB.out.trans hb1)); clear ho1 hb1 c0 c1 c2 c3 c4 c5 c6 c7 e2)
    | (at_builtin; refine wp_appW rfl (.tmp 59) (.tmp 63) rfl w.heap.size v1 m.wait rfl (World.ownsRow.alloc HO1.out.1 _) (some ⟨w1.heap.size, 0, none⟩) 1 1 [(s, b)] rfl rfl (w1.heap.size + 1) (WRow.one w1 72 s b BB HBB.out) (by have := HM.out.1; have := HM.out.2.1; simp; omega) (by have := HO1.out.2.size; simp; omega) ?_; intro v3 w3 ho3 hb3 _ _; obtain ⟨A5, n5, c5, rfl, hn5⟩ : ∃ A5 n5 c5, v3 = .slice A5 n5 c5 ∧ n5 = (m.wait ++ [(s, b)]).length := (by rcases ho3.2 with ⟨e, hn⟩ | ⟨q, cap, cur, e, _⟩; exact ⟨_, _, _, e, hn.symm⟩; exact ⟨_, _, _, e, rfl⟩); have hB3 : Below w.heap.size w w3 := (HO1.out.2.alloc HO1.out.2.size _).trans hb3; have k3 := H.out.blk.below hB3 hlg; have d2 : w3.cell? ⟨g, 2, none⟩ = some (.slice x.wA m.wait.length x.wc) := k3.cell 2; have d7 : w3.cell? ⟨g, 7, none⟩ = some (.int .i64 wn) := (by rw [HM.out.2.2.1]; exact k3.cell 7); have f2 := k3.free 2; have f7 := k3.free 7; have p9 : (wn : Int) ≤ 1000000 := (by have := HM.out.2.2.2; omega); have p8 : (0 : Int) ≤ (wn : Int) := (by omega); have HF := Lib.hid (show ∀ W, W = (w3.setCell ⟨g, 2, none⟩ (.slice A5 n5 c5)).setCell ⟨g, 7, none⟩ (.int .i64 (wn + 1 : Nat)) → ((∀ a, A5 = some a → w.heap.size ≤ a.block) ∧ MdAt W g { x with wA := A5, wc := c5 } (m.push s b)) ∧ Kept (fun k => k = g) w W from fun W hW => mpush_end (w0 := w) H.out hB3 s b A5 n5 c5 hn5 ho3 (by rw [hW, HM.out.2.2.1])); clear k3 hB3 ho3 hb3 hn5))
  go_ret
  have q := HF.out _ rfl
  exact ⟨rfl, ⟨A5, c5, q.1⟩, q.2⟩
end Go.Proofs.Ytfcbmdmkdjaoaaa
