/- Texts joined: TxK CardB TxE TxF TxG CaQ TxH CaS. -/
import Derived.Test.YtdppnggchpchgaaDoorCe8
import Derived.Deep.CutRange
import Derived.Test.YtdppnggchpchgaaDoorRows
import Derived.Test.YtdppnggchpchgaaDoorTie
import Derived.Test.YtdppnggchpchgaaDoorCards
import Derived.Lib.LaidTab
import Derived.LaidMore
import Derived.SevenTiedAt
import Derived.Stop.LaidErr
/- What loamlaw18.known answers: true. Conditions: the table deBruijn64tab. -/
namespace Go.Proofs.YtdppnggchpchgaaDoor
set_option linter.unusedVariables false
set_option linter.unusedSimpArgs false
open Go.RowKit Go.Maps
def kaN (s : Nat) : List Nv := [⟨none, 0, some ⟨s, 0, none⟩, 1, [], [120#8]⟩, ⟨some ⟨s + 1, 0, none⟩, 1, none, 0, [1], []⟩]
def kaR : List Rv := [⟨⟨#[114]⟩, 2⟩]
def kaG (s : Nat) : Gv := ⟨some ⟨s + 1 + 1, 0, none⟩, 2, some ⟨s + 1 + 1 + 1, 0, none⟩, 1, kaN s, kaR⟩
def kbN (t : Nat) : List Nv := [⟨some ⟨t, 0, none⟩, 1, none, 0, [3], []⟩, ⟨none, 0, none, 0, [], []⟩, ⟨none, 0, some ⟨t + 1, 0, none⟩, 1, [], [120#8]⟩]
def kbR : List Rv := [⟨⟨#[114]⟩, 1⟩]
def kbG (t : Nat) : Gv := ⟨some ⟨t + 1 + 1, 0, none⟩, 3, some ⟨t + 1 + 1 + 1, 0, none⟩, 1, kbN t, kbR⟩
theorem kaM (s : Nat) : canM (kaG s) = [([2], []), ([], [120#8])] ∧ canR (kaG s) = [⟨⟨#[114]⟩, 1⟩] := by
  obtain ⟨e1, e2⟩ := can_m (a := kaG s) (b := kaG 0) rfl rfl
  rw [e1, e2]
  exact ⟨by decide +kernel, by kernel_rfl⟩
theorem kbM (s : Nat) : canM (kbG s) = [([2], []), ([], [120#8])] ∧ canR (kbG s) = [⟨⟨#[114]⟩, 1⟩] := by
  obtain ⟨e1, e2⟩ := can_m (a := kbG s) (b := kbG 0) rfl rfl
  rw [e1, e2]
  exact ⟨by decide +kernel, by kernel_rfl⟩
theorem kaW (s : Nat) : walkL (kaG s).n ((kaG s).r.map (·.t)) = [2, 1] := by
  have e : walkL (kaG s).n ((kaG s).r.map (·.t)) = walkL (kaG 0).n ((kaG 0).r.map (·.t)) := walk_m rfl _
  rw [e]
  decide +kernel
theorem kaF (s : Nat) : FewP (kaG s) := by
  refine ⟨by show 2 ≤ 60; omega, by show 1 ≤ 80; omega, fun x hx => ?_, fun r hr => ?_⟩
  · have h : x ∈ kaN s := hx
    simp only [kaN, List.mem_cons, List.not_mem_nil, or_false] at h
    rcases h with rfl | rfl <;> simp
  · have h : r ∈ kaR := hr
    simp only [kaR, List.mem_cons, List.not_mem_nil, or_false] at h
    subst h
    show (1 : Nat) ≤ 40
    omega
theorem kbF (s : Nat) : FewP (kbG s) := by
  refine ⟨by show 3 ≤ 60; omega, by show 1 ≤ 80; omega, fun x hx => ?_, fun r hr => ?_⟩
  · have h : x ∈ kbN s := hx
    simp only [kbN, List.mem_cons, List.not_mem_nil, or_false] at h
    rcases h with rfl | rfl | rfl <;> simp
  · have h : r ∈ kbR := hr
    simp only [kbR, List.mem_cons, List.not_mem_nil, or_false] at h
    subst h
    show (1 : Nat) ≤ 40
    omega
theorem kaO (s : Nat) : CanOk (kaG s) := by
  refine ⟨(kaF s).small, by show 1 ≤ 100000; omega, fun x hx p hp => ?_, fun r hr => ?_⟩
  · have h : x ∈ kaN s := hx
    simp only [kaN, List.mem_cons, List.not_mem_nil, or_false] at h
    rcases h with rfl | rfl
    · cases hp
    · simp only [List.mem_cons, List.not_mem_nil, or_false] at hp
      subst hp
      decide
  · have h : r ∈ kaR := hr
    simp only [kaR, List.mem_cons, List.not_mem_nil, or_false] at h
    subst h
    decide
theorem kbO (s : Nat) : CanOk (kbG s) := by
  refine ⟨(kbF s).small, by show 1 ≤ 100000; omega, fun x hx p hp => ?_, fun r hr => ?_⟩
  · have h : x ∈ kbN s := hx
    simp only [kbN, List.mem_cons, List.not_mem_nil, or_false] at h
    rcases h with rfl | rfl | rfl
    · simp only [List.mem_cons, List.not_mem_nil, or_false] at hp
      subst hp
      decide
    · cases hp
    · cases hp
  · have h : r ∈ kbR := hr
    simp only [kbR, List.mem_cons, List.not_mem_nil, or_false] at h
    subst h
    decide
theorem kaA {W : World} {s : Nat} (h0 : W.cell? ⟨s, 0, none⟩ = some (.int .u8 120)) (h1 : W.cell? ⟨s + 1, 0, none⟩ = some (.int .i64 1)) (h2 : Bk W (s + 1 + 1) 52 #[.slice none 0 0, .slice (some ⟨s, 0, none⟩) 1 1, .slice (some ⟨s + 1, 0, none⟩) 1 1, .slice none 0 0]) (h3 : Bk W (s + 1 + 1 + 1) 55 #[.string ⟨#[114]⟩, .int .i64 2]) : (kaG s).At W W.heap.size := by
  have l3 := h3.lt
  have l2 := h2.lt
  refine ⟨fun i hi => ?_, fun i hi => ?_, by show 2 ≤ 2; omega, by show 1 ≤ 1; omega⟩
  · have hi1 : i = 0 ∨ i = 1 := by have h : i < 2 := hi; omega
    rcases hi1 with rfl | rfl
    · refine ⟨⟨s + 1 + 1, 0, none⟩, rfl, l2, h2.cell 0, h2.cell 1, ⟨fun j hj => absurd hj (by show ¬ j < 0; omega), fun j hj => ?_, by show 0 ≤ 0; omega, by show 1 ≤ 1; omega⟩⟩
      have : j = 0 := by have h : j < 1 := hj; omega
      subst this
      exact ⟨⟨s, 0, none⟩, rfl, by show s < _; omega, h0⟩
    · refine ⟨⟨s + 1 + 1, 0, none⟩, rfl, l2, h2.cell 2, h2.cell 3, ⟨fun j hj => ?_, fun j hj => absurd hj (by show ¬ j < 0; omega), by show 1 ≤ 1; omega, by show 0 ≤ 0; omega⟩⟩
      have : j = 0 := by have h : j < 1 := hj; omega
      subst this
      exact ⟨⟨s + 1, 0, none⟩, rfl, by show s + 1 < _; omega, h1⟩
  · have hi1 : i = 0 := by have h : i < 1 := hi; omega
    subst hi1
    exact ⟨⟨s + 1 + 1 + 1, 0, none⟩, rfl, l3, h3.cell 0, h3.cell 1⟩
theorem kbA {W : World} {s : Nat} (h0 : W.cell? ⟨s, 0, none⟩ = some (.int .i64 3)) (h1 : W.cell? ⟨s + 1, 0, none⟩ = some (.int .u8 120)) (h2 : Bk W (s + 1 + 1) 52 #[.slice (some ⟨s, 0, none⟩) 1 1, .slice none 0 0, .slice none 0 0, .slice none 0 0, .slice none 0 0, .slice (some ⟨s + 1, 0, none⟩) 1 1]) (h3 : Bk W (s + 1 + 1 + 1) 55 #[.string ⟨#[114]⟩, .int .i64 1]) : (kbG s).At W W.heap.size := by
  have l3 := h3.lt
  have l2 := h2.lt
  refine ⟨fun i hi => ?_, fun i hi => ?_, by show 3 ≤ 3; omega, by show 1 ≤ 1; omega⟩
  · have hi1 : i = 0 ∨ i = 1 ∨ i = 2 := by have h : i < 3 := hi; omega
    rcases hi1 with rfl | rfl | rfl
    · refine ⟨⟨s + 1 + 1, 0, none⟩, rfl, l2, h2.cell 0, h2.cell 1, ⟨fun j hj => ?_, fun j hj => absurd hj (by show ¬ j < 0; omega), by show 1 ≤ 1; omega, by show 0 ≤ 0; omega⟩⟩
      have : j = 0 := by have h : j < 1 := hj; omega
      subst this
      exact ⟨⟨s, 0, none⟩, rfl, by show s < _; omega, h0⟩
    · exact ⟨⟨s + 1 + 1, 0, none⟩, rfl, l2, h2.cell 2, h2.cell 3, ⟨fun j hj => absurd hj (by show ¬ j < 0; omega), fun j hj => absurd hj (by show ¬ j < 0; omega), by show 0 ≤ 0; omega, by show 0 ≤ 0; omega⟩⟩
    · refine ⟨⟨s + 1 + 1, 0, none⟩, rfl, l2, h2.cell 4, h2.cell 5, ⟨fun j hj => absurd hj (by show ¬ j < 0; omega), fun j hj => ?_, by show 0 ≤ 0; omega, by show 1 ≤ 1; omega⟩⟩
      have : j = 0 := by have h : j < 1 := hj; omega
      subst this
      exact ⟨⟨s + 1, 0, none⟩, rfl, by show s + 1 < _; omega, h1⟩
  · have hi1 : i = 0 := by have h : i < 1 := hi; omega
    subst hi1
    exact ⟨⟨s + 1 + 1 + 1, 0, none⟩, rfl, l3, h3.cell 0, h3.cell 1⟩
theorem kText : strB (textL [⟨⟨#[114]⟩, 1⟩] [([2], []), ([], [120#8])]) = ⟨#[114, 32, 45, 62, 32, 49, 10, 49, 58, 32, 50, 10, 50, 58, 32, 120, 55, 56, 10]⟩ := by
  have h : (strB (textL [⟨⟨#[114]⟩, 1⟩] [([2], []), ([], [120#8])])).data = (⟨#[114, 32, 45, 62, 32, 49, 10, 49, 58, 32, 50, 10, 50, 58, 32, 120, 55, 56, 10]⟩ : ByteArray).data := by decide +kernel
  exact congrArg ByteArray.mk h
theorem add_nought (a : Addr) : a.add 0 = a := by
  obtain ⟨b, o, m⟩ := a
  unfold Addr.add
  split <;> simp_all
theorem field_g (A B : Option Addr) (n c m d : Nat) (W : World) : (Instr.field 25 (.agg #[.slice A n c, .slice B m d]) 0).run Tryd.prog W = .ok (.slice A n c) W := by kernel_rfl
set_option maxHeartbeats 4000000
set_option maxRecDepth 100000
theorem known18_c (w : World) (ht : w.cell? ⟨2, 15, none⟩ = some (.int .u8 4)) : Calls Tryd.prog 7 #[] w (RetP (.bool true) w) := by
  have HT := Lib.hid (fun W (b : Below w.heap.size w W) => (b.cell (tab_lt ht)).trans ht)
  clear ht
  have kc := Joins.run_convert_bytes_const_at (P := Tryd.prog) w 45 5 #[.int .u8 120] 1 1 w.heap.size (by simp) Tryd.underlying45 Tryd.underlying5
  go_enter Tryd.func7, Tryd.ntmps7
  go_wp2_with fail
  obtain ⟨s, hs⟩ : ∃ s, s = w.heap.size := ⟨_, rfl⟩
  obtain ⟨w1, hw1⟩ : ∃ W, W = w.alloc (.cells #[.int .u8 120] 5 (1, 2)) := ⟨_, rfl⟩
  obtain ⟨w2, hw2⟩ : ∃ W, W = w1.alloc (.cells #[.int .i64 1] 3) := ⟨_, rfl⟩
  rw [← hs, ← hw1, ← hw2]
  obtain ⟨w3, hw3⟩ : ∃ W, W = w2.alloc (.cells #[.slice none 0 0, .slice (some ⟨s, 0, none⟩) 1 1, .slice (some ⟨s + 1, 0, none⟩) 1 1, .slice none 0 0] 52) := ⟨_, rfl⟩
  obtain ⟨w4, hw4⟩ : ∃ W, W = w3.alloc (.cells #[.string ⟨#[114]⟩, .int .i64 2] 55) := ⟨_, rfl⟩
  obtain ⟨w5, hw5⟩ : ∃ W, W = w4.alloc (.cells #[.slice (some ⟨s + 1 + 1, 0, none⟩) 2 2, .slice (some ⟨s + 1 + 1 + 1, 0, none⟩) 1 1] 25) := ⟨_, rfl⟩
  obtain ⟨t, ht⟩ : ∃ t, t = s + 1 + 1 + 1 + 1 + 1 := ⟨_, rfl⟩
  rw [← hw3, ← hw4, ← hw5, ← ht]
  have z1 : w1.heap.size = s + 1 := by rw [hw1, hs]; simp
  have z2 : w2.heap.size = s + 1 + 1 := by rw [hw2, ← z1]; simp
  have z3 : w3.heap.size = s + 1 + 1 + 1 := by rw [hw3, ← z2]; simp
  have z4 : w4.heap.size = s + 1 + 1 + 1 + 1 := by rw [hw4, ← z3]; simp
  have z5 : w5.heap.size = t := by rw [hw5, ht, ← z4]; simp
  have c1 : w1.cell? ⟨s, 0, none⟩ = some (.int .u8 120) := by
    rw [hw1, hs]
    have := heap_alloc_new w (.cells #[.int .u8 120] 5 (1, 2))
    unfold World.cell?
    rw [this]; rfl
  have c2 : Bk w2 (s + 1) 3 #[.int .i64 1] := by rw [hw2, ← z1]; exact Bk.new w1 _ _
  have c3 : Bk w3 (s + 1 + 1) 52 #[.slice none 0 0, .slice (some ⟨s, 0, none⟩) 1 1, .slice (some ⟨s + 1, 0, none⟩) 1 1, .slice none 0 0] := by rw [hw3, ← z2]; exact Bk.new w2 _ _
  have c4 : Bk w4 (s + 1 + 1 + 1) 55 #[.string ⟨#[114]⟩, .int .i64 2] := by rw [hw4, ← z3]; exact Bk.new w3 _ _
  have c5 : Bk w5 (s + 1 + 1 + 1 + 1) 25 #[.slice (some ⟨s + 1 + 1, 0, none⟩) 2 2, .slice (some ⟨s + 1 + 1 + 1, 0, none⟩) 1 1] := by rw [hw5, ← z4]; exact Bk.new w4 _ _
  have b1 : Below w.heap.size w w1 := by rw [hw1]; exact Gw.alloc w _
  have b2 : Below w1.heap.size w1 w2 := by rw [hw2]; exact Gw.alloc w1 _
  have b3 : Below w2.heap.size w2 w3 := by rw [hw3]; exact Gw.alloc w2 _
  have b4 : Below w3.heap.size w3 w4 := by rw [hw4]; exact Gw.alloc w3 _
  have b5 : Below w4.heap.size w4 w5 := by rw [hw5]; exact Gw.alloc w4 _
  have b45 := b4.trans (b5.mono b4.size)
  have b35 := b3.trans (b45.mono b3.size)
  have b25 := b2.trans (b35.mono b2.size)
  have ha := kaA (W := w5) (s := s) ((b25.cell (p := ⟨s, 0, none⟩) (cell_lt c1)).trans c1) ((c2.below b35 c2.lt).cell 0) (c3.below b45 c3.lt) (c4.below b5 c4.lt)
  obtain ⟨ga, hga⟩ : ∃ g, g = s + 1 + 1 + 1 + 1 := ⟨_, rfl⟩
  rw [← hga] at c5 ⊢
  have HA := Lib.hid (And.intro ha (And.intro c5 (b1.trans (b25.mono b1.size))))
  have HZ := Lib.hid z5
  have hgt : ga < t := by omega
  clear hw1 hw2 hw3 hw4 hw5 z1 z2 z3 z4 c1 c2 c3 c4 c5 b1 b2 b3 b4 b5 b45 b35 b25 ha kc hs ht hga
  have kc := Joins.run_convert_bytes_const_at (P := Tryd.prog) (w5.alloc (.cells #[.int .i64 3] 3)) 45 5 #[.int .u8 120] 1 1 (t + 1) (by simp [z5]) Tryd.underlying45 Tryd.underlying5
  obtain ⟨g0, g1⟩ := HA.out.2.1.two
  have hgl := HA.out.2.1.lt
  rw [kc]
  simp only [Result.andThen]
  rw [Oper.upon_value]
  clear kc
  go_upto_region 3 with fail
  obtain ⟨w6, hw6⟩ : ∃ W, W = w5.alloc (.cells #[.int .i64 3] 3) := ⟨_, rfl⟩
  obtain ⟨w7, hw7⟩ : ∃ W, W = w6.alloc (.cells #[.int .u8 120] 5 (1, 2)) := ⟨_, rfl⟩
  obtain ⟨w8, hw8⟩ : ∃ W, W = w7.alloc (.cells #[.slice (some ⟨t, 0, none⟩) 1 1, .slice none 0 0, .slice none 0 0, .slice none 0 0, .slice none 0 0, .slice (some ⟨t + 1, 0, none⟩) 1 1] 52) := ⟨_, rfl⟩
  obtain ⟨w9, hw9⟩ : ∃ W, W = w8.alloc (.cells #[.string ⟨#[114]⟩, .int .i64 1] 55) := ⟨_, rfl⟩
  obtain ⟨wx, hwx⟩ : ∃ W, W = w9.alloc (.cells #[.slice (some ⟨t + 1 + 1, 0, none⟩) 3 3, .slice (some ⟨t + 1 + 1 + 1, 0, none⟩) 1 1] 25) := ⟨_, rfl⟩
  obtain ⟨gb, hgb⟩ : ∃ g, g = t + 1 + 1 + 1 + 1 := ⟨_, rfl⟩
  rw [← hw6, ← hw7, ← hw8, ← hw9, ← hwx, ← hgb]
  have z6 : w6.heap.size = t + 1 := by rw [hw6, ← z5]; simp
  have z7 : w7.heap.size = t + 1 + 1 := by rw [hw7, ← z6]; simp
  have z8 : w8.heap.size = t + 1 + 1 + 1 := by rw [hw8, ← z7]; simp
  have z9 : w9.heap.size = t + 1 + 1 + 1 + 1 := by rw [hw9, ← z8]; simp
  have c6 : Bk w6 t 3 #[.int .i64 3] := by rw [hw6, ← z5]; exact Bk.new w5 _ _
  have c7 : w7.cell? ⟨t + 1, 0, none⟩ = some (.int .u8 120) := by
    rw [hw7, ← z6]
    have := heap_alloc_new w6 (.cells #[.int .u8 120] 5 (1, 2))
    unfold World.cell?
    rw [this]; rfl
  have c8 : Bk w8 (t + 1 + 1) 52 #[.slice (some ⟨t, 0, none⟩) 1 1, .slice none 0 0, .slice none 0 0, .slice none 0 0, .slice none 0 0, .slice (some ⟨t + 1, 0, none⟩) 1 1] := by rw [hw8, ← z7]; exact Bk.new w7 _ _
  have c9 : Bk w9 (t + 1 + 1 + 1) 55 #[.string ⟨#[114]⟩, .int .i64 1] := by rw [hw9, ← z8]; exact Bk.new w8 _ _
  have cx : Bk wx gb 25 #[.slice (some ⟨t + 1 + 1, 0, none⟩) 3 3, .slice (some ⟨t + 1 + 1 + 1, 0, none⟩) 1 1] := by rw [hwx, hgb, ← z9]; exact Bk.new w9 _ _
  have b6 : Below w5.heap.size w5 w6 := by rw [hw6]; exact Gw.alloc w5 _
  have b7 : Below w6.heap.size w6 w7 := by rw [hw7]; exact Gw.alloc w6 _
  have b8' : Below w7.heap.size w7 w8 := by rw [hw8]; exact Gw.alloc w7 _
  have b9 : Below w8.heap.size w8 w9 := by rw [hw9]; exact Gw.alloc w8 _
  have bx : Below w9.heap.size w9 wx := by rw [hwx]; exact Gw.alloc w9 _
  have b9x := b9.trans (bx.mono b9.size)
  have b8x := b8'.trans (b9x.mono b8'.size)
  have b7x := b7.trans (b8x.mono b7.size)
  have b6x := b6.trans (b7x.mono b6.size)
  have hb := kbA (W := wx) (s := t) ((c6.below b7x c6.lt).cell 0) ((b8x.cell (p := ⟨t + 1, 0, none⟩) (cell_lt c7)).trans c7) (c8.below b9x c8.lt) (c9.below bx c9.lt)
  have HX := Lib.hid (show ∀ W, Below wx.heap.size wx W → (kaG s).At W W.heap.size ∧ (kbG t).At W W.heap.size ∧ Bk W ga 25 #[.slice (some ⟨s + 1 + 1, 0, none⟩) 2 2, .slice (some ⟨s + 1 + 1 + 1, 0, none⟩) 1 1] ∧ Bk W gb 25 #[.slice (some ⟨t + 1 + 1, 0, none⟩) 3 3, .slice (some ⟨t + 1 + 1 + 1, 0, none⟩) 1 1] ∧ Below w.heap.size w W from fun W b =>
    have bb := b6x.trans (b.mono b6x.size)
    ⟨HA.out.1.up bb, hb.up b, HA.out.2.1.below bb HA.out.2.1.lt, cx.below b cx.lt, HA.out.2.2.trans (bb.mono HA.out.2.2.size)⟩)
  have HSm := Lib.hid (fun W b => show Calls Tryd.prog 21 #[.agg #[.slice (some ⟨s + 1 + 1, 0, none⟩) 2 2, .slice (some ⟨s + 1 + 1 + 1, 0, none⟩) 1 1], .agg #[.slice (some ⟨t + 1 + 1, 0, none⟩) 3 3, .slice (some ⟨t + 1 + 1 + 1, 0, none⟩) 1 1]] W (RetP (.bool true) W) from by
    have h := csame_c W (kaG s) (kbG t) (HX.out W b).1 (HX.out W b).2.1 (kaO s) (kbO t)
    rw [sameC_true ((kaM s).1.trans (kbM t).1.symm) ((kaM s).2.trans (kbM t).2.symm)] at h
    exact h)
  have HEq := Lib.hid (fun W b => show Calls Tryd.prog 20 #[.agg #[.slice (some ⟨s + 1 + 1, 0, none⟩) 2 2, .slice (some ⟨s + 1 + 1 + 1, 0, none⟩) 1 1], .agg #[.slice (some ⟨t + 1 + 1, 0, none⟩) 3 3, .slice (some ⟨t + 1 + 1 + 1, 0, none⟩) 1 1]] W (RetP (.bool false) W) from by
    have h := equalG_c W (kaG s) (kbG t) (HX.out W b).1 (HX.out W b).2.1 (kaF s).small
    have e : sameG (kaG s) (kbG t) = false := same_false (fun e => by
      have e2 := congrArg List.length e.2
      have e3 : (2 : Nat) = 3 := e2
      omega)
    rw [e] at h
    exact h)
  have HTx := Lib.hid (fun W b => show Calls Tryd.prog 14 #[.agg #[.slice (some ⟨s + 1 + 1, 0, none⟩) 2 2, .slice (some ⟨s + 1 + 1 + 1, 0, none⟩) 1 1]] W (RetP (.string ⟨#[114, 32, 45, 62, 32, 49, 10, 49, 58, 32, 50, 10, 50, 58, 32, 120, 55, 56, 10]⟩) W) from by
    have h := text_c W (kaG s) (HX.out W b).1 (kaO s) (text_ok (kaF s)) (HT.out W (HX.out W b).2.2.2.2)
    rw [(kaM s).1, (kaM s).2, kText] at h
    exact h)
  have HCn := Lib.hid (fun W b => show Calls Tryd.prog 11 #[.agg #[.slice (some ⟨t + 1 + 1, 0, none⟩) 3 3, .slice (some ⟨t + 1 + 1 + 1, 0, none⟩) 1 1]] W fun e w2 => ∃ u, e = .returned u ∧ Below W.heap.size W w2 ∧ CaV (kbG t) u w2 from can_v (g := kbG t) rfl (kbO t) (HX.out W b).2.1)
  have HOr := Lib.hid (fun W b => show Calls Tryd.prog 17 #[.agg #[.slice (some ⟨s + 1 + 1, 0, none⟩) 2 2, .slice (some ⟨s + 1 + 1 + 1, 0, none⟩) 1 1]] W fun e w' => ∃ A c, e = .returned (.slice A 2 c) ∧ Rd iV w' w'.heap.size A [2, 1] ∧ Below W.heap.size W w' from by
    have h := order_c W (kaG s) (HX.out W b).1 (kaF s).small
    rw [kaW] at h
    refine h.mono ?_
    rintro e w' ⟨A, n, c, rfl, rfl, hr, hb⟩
    exact ⟨A, c, rfl, hr, hb⟩)
  have H10 := Lib.hid (HX.out wx (Below.refl _ _))
  clear hw6 hw7 hw8 hw9 hwx hgb z5 z6 z7 z8 z9 c6 c7 c8 c9 cx b6 b7 b8' b9 bx b9x b8x b7x b6x hb g0 g1 hgl hgt HZ HA
  obtain ⟨g0, g1⟩ := H10.out.2.2.1.two
  obtain ⟨k0, k1⟩ := H10.out.2.2.2.1.two
  have l0 := H10.out.2.2.1.lt
  have l1 := H10.out.2.2.2.1.lt
  go_wp2_with fail
  refine Calls.mono (HSm.out wx (Below.refl _ _)) ?_
  rintro r wy ⟨rfl, by_⟩
  have HY := Lib.hid by_
  have HB := Lib.hid (HX.out wy by_)
  clear by_ g0 g1 k0 k1 l0 l1
  obtain ⟨g0, g1⟩ := HB.out.2.2.1.two
  obtain ⟨k0, k1⟩ := HB.out.2.2.2.1.two
  have l0 := HB.out.2.2.1.lt
  have l1 := HB.out.2.2.2.1.lt
  go_wp2_with fail
  refine Calls.mono (HEq.out wy HY.out) ?_
  rintro r wz ⟨rfl, by_⟩
  have HY2 := Lib.hid (HY.out.trans (by_.mono HY.out.size))
  clear by_ g0 g1 k0 k1 l0 l1 HB
  have HB := Lib.hid (HX.out wz HY2.out)
  obtain ⟨g0, g1⟩ := HB.out.2.2.1.two
  have l0 := HB.out.2.2.1.lt
  go_wp2_with fail
  refine Calls.mono (HTx.out wz HY2.out) ?_
  rintro r wA ⟨rfl, by_⟩
  have HY3 := Lib.hid (HY2.out.trans (by_.mono HY2.out.size))
  clear by_ g0 g1 l0 HB
  have HB := Lib.hid (HX.out wA HY3.out)
  obtain ⟨k0, k1⟩ := HB.out.2.2.2.1.two
  have l1 := HB.out.2.2.2.1.lt
  go_wp2_with fail
  refine Calls.mono (HCn.out wA HY3.out) ?_
  rintro r wB ⟨u, rfl, by_, c, rfl, hc1, hc2, hc3⟩
  have hcl : c.n.length = 2 := by
    have h := congrArg List.length hc2
    rw [(kbM t).1, List.length_map] at h
    exact h
  have hcv : c.v = .agg #[.slice c.A 2 c.c, .slice c.A2 c.r.length c.c2] := by
    show Value.agg #[.slice c.A c.n.length c.c, _] = _
    rw [hcl]; rfl
  rw [hcv]
  have hfg := field_g c.A c.A2 2 c.c c.r.length c.c2 wB
  have HY4 := Lib.hid (HY3.out.trans (by_.mono HY3.out.size))
  clear by_ k0 k1 l1 HB hc1 hc2 hc3 hcl hcv
  have HB := Lib.hid (HX.out wB HY4.out)
  obtain ⟨g0, g1⟩ := HB.out.2.2.1.two
  have l0 := HB.out.2.2.1.lt
  go_wp2_with fail
  refine Calls.mono (HOr.out wB HY4.out) ?_
  rintro r wC ⟨OA, oc, rfl, _, by_⟩
  have HY5 := Lib.hid (HY4.out.trans (by_.mono HY4.out.size))
  clear by_ g0 g1 l0 HB
  have HB := Lib.hid (HX.out wC HY5.out)
  obtain ⟨g0, g1⟩ := HB.out.2.2.1.two
  have l0 := HB.out.2.2.1.lt
  go_wp2_with fail
  refine Calls.mono (HOr.out wC HY5.out) ?_
  rintro r wD ⟨PA, pc, rfl, hr, by_⟩
  have HY6 := Lib.hid (HX.out wD (HY5.out.trans (by_.mono HY5.out.size))).2.2.2.2
  obtain ⟨ad, rfl, hal, hcell⟩ : ∃ ad, PA = some ad ∧ ad.block < wD.heap.size ∧ wD.cell? (ad.add 0) = some (.int .i64 2) := by
    obtain ⟨ad, e, hb, hc⟩ := hr 0 (by decide)
    exact ⟨ad, e, hb, hc⟩
  rw [add_nought] at hcell
  clear by_ g0 g1 l0 HB hr
  go_wp2_with fail
  go_ret
  exact ⟨rfl, HY6.out⟩
end Go.Proofs.YtdppnggchpchgaaDoor
/- Stage 18's cards: what the listed tables give (math/bits.deBruijn64tab's place 15), and the door's own heap as a witness. Conditions: the row's own. -/
namespace Go.Proofs.YtdppnggchpchgaaDoor
set_option linter.unusedVariables false
set_option linter.unusedSimpArgs false
open Go.RowKit
def laid18 : List (String × DataW Unit) := Rows.canonTwoRow.laid
def nm64 : String := match Rows.canonTwoRow.laid with
  | [_, (n, _), _] => n
  | _ => default
def nm10 : String := match Rows.canonTwoRow.laid with
  | [_, _, (n, _)] => n
  | _ => default
theorem gT64 : Tryd.prog.globalNamed nm64 = some 2 := by kernel_rfl
theorem gT64t : (Tryd.prog.globals[2]?).map (·.type) = some 103 := by kernel_rfl
def tab64 : List Int := match (Rows.laid_math_bits_deBruijn64tab : DataW Unit) with
  | .agg xs => xs.map fun x => match x with
    | .lit (.int _ z) => z
    | _ => 0
  | _ => []
theorem tab64_is : (Rows.laid_math_bits_deBruijn64tab : DataW Unit) = Lib.tabData .u8 tab64 := by kernel_rfl
theorem tab64_at : 15 < tab64.length ∧ tab64.getD 15 0 = 4 := by decide +kernel
theorem of_laid {W : World} (h : laidMetH Tryd.prog laid18 W) : W.cell? ⟨2, 15, none⟩ = some (.int .u8 4) := by
  rw [MakeChecks.laidMetH_plain _ _ _ (by kernel_rfl)] at h
  have h2 : laidMet Tryd.prog [(nm64, Rows.laid_math_bits_deBruijn64tab), (nm10, Rows.laid_internal_strconv_uint64pow10)] W := laidMet.tail h
  rw [tab64_is] at h2
  have ht := Lib.tabIs_of_head gT64 gT64t Tryd.underlying103 Tryd.underlying5 (by kernel_rfl) (by kernel_rfl) h2
  have := ht.cell gT64 15 tab64_at.1
  rw [tab64_at.2] at this
  exact this
theorem door_met (os : Os) (args : Array Value) : laidMetH Tryd.prog laid18 ((World.doorLaid Tryd.prog 24 os).forCall (fun _ _ => 0) ⟨#[], args, []⟩).memory :=
  laidMetH_of_parts3 (fuel := 8) (laidMet_of_run' 8 (by kernel_rfl) (by kernel_rfl)) (by kernel_rfl) (by kernel_rfl)
end Go.Proofs.YtdppnggchpchgaaDoor
/- The reference's Decimal and Hex. Conditions: below a hundred; lengths. -/
namespace Go.Proofs.YtdppnggchpchgaaDoor
set_option linter.unusedVariables false
set_option linter.unusedSimpArgs false
open Go.RowKit
set_option maxHeartbeats 2000000
set_option maxRecDepth 100000
end Go.Proofs.YtdppnggchpchgaaDoor
/- The reference's Hex. Conditions: lengths. -/
namespace Go.Proofs.YtdppnggchpchgaaDoor
set_option linter.unusedVariables false
set_option linter.unusedSimpArgs false
open Go.RowKit
def hxS : ByteArray := ⟨#[48, 49, 50, 51, 52, 53, 54, 55, 56, 57, 97, 98, 99, 100, 101, 102]⟩
def ByV (bs : List (BitVec 8)) (v : Value) (W : World) : Prop := ∃ A c, v = .slice A bs.length c ∧ Rd b8 W W.heap.size A bs
theorem ByV.mono {bs : List (BitVec 8)} {v : Value} {a b : World} (h : ByV bs v a) (hb : Below a.heap.size a b) : ByV bs v b := by
  obtain ⟨A, c, e, h1⟩ := h
  exact ⟨A, c, e, (h1.below hb).more hb.size⟩
set_option maxHeartbeats 2000000
set_option maxRecDepth 100000
end Go.Proofs.YtdppnggchpchgaaDoor
/- The reference's Text. Conditions: few nodes; all pointers are some node's or 0. -/
namespace Go.Proofs.YtdppnggchpchgaaDoor
set_option linter.unusedVariables false
set_option linter.unusedSimpArgs false
open Go.RowKit Go.Maps
set_option maxHeartbeats 4000000
set_option maxRecDepth 100000
end Go.Proofs.YtdppnggchpchgaaDoor
/- A graph that is canonical stays as it is (pure). No conditions. -/
namespace Go.Proofs.YtdppnggchpchgaaDoor
set_option linter.unusedVariables false
set_option linter.unusedSimpArgs false
open Go.RowKit Go.Maps
end Go.Proofs.YtdppnggchpchgaaDoor
/- Stage 18: contracts in the form that regions want. No conditions. -/
namespace Go.Proofs.YtdppnggchpchgaaDoor
set_option linter.unusedVariables false
set_option linter.unusedSimpArgs false
open Go.RowKit Go.Maps
theorem csame_k {W : World} {a b : Gv} {u v : Value} {p : Bool} (ea : a.v = u) (eb : b.v = v) (oa : CanOk a) (ob : CanOk b) (hp : sameC a b = p) (ha : a.At W W.heap.size) (hb : b.At W W.heap.size) : Calls Tryd.prog 21 #[u, v] W (RetP (.bool p) W) := by
  rw [← ea, ← eb, ← hp]
  exact csame_c W a b ha hb oa ob
theorem rck_k {W : World} {g : Gv} {v : Value} (hf : FewP g) (h : OfV g v W) : Calls Tryd.prog 9 #[v] W (RetP (.int .i64 (ckG g)) W) := by
  obtain ⟨g1, rfl, h1, n1, r1⟩ := h
  have k := rcheck_c W g1 h1 (hf.same (by rw [n1]) r1)
  rw [show ckG g1 = ckG g from by unfold ckG; rw [n1, r1]] at k
  exact k
theorem text_k {W : World} {g : Gv} {v : Value} {T : List (BitVec 8)} (hv : g.v = v) (hf : FewP g) (h0 : ckG g = 0) (hT : textL (canR g) (canM g) = T) (h : g.At W W.heap.size) (ht : W.cell? ⟨2, 15, none⟩ = some (.int .u8 4)) : Calls Tryd.prog 14 #[v] W (RetP (.string (strB T)) W) := by
  rw [← hv, ← hT]
  exact text_c W g h (can_ok h0 hf.small) (text_ok hf) ht
end Go.Proofs.YtdppnggchpchgaaDoor
/- A canonical graph of which one byte is another one (pure). No conditions. -/
namespace Go.Proofs.YtdppnggchpchgaaDoor
set_option linter.unusedVariables false
set_option linter.unusedSimpArgs false
open Go.RowKit Go.Maps
def idL (n : Nat) : List Int := (List.range n).map fun (i : Nat) => (i : Int) + 1
theorem idL_len (n : Nat) : (idL n).length = n := by simp [idL]
theorem idL_get {n i : Nat} (h : i < n) : (idL n)[i]? = some ((i : Int) + 1) := by simp [idL, h]
theorem idL_nd (n : Nat) : (idL n).Nodup := by
  unfold idL
  rw [List.nodup_iff_pairwise_ne, List.pairwise_map]
  exact (List.nodup_iff_pairwise_ne.1 List.nodup_range).imp fun h e => h (by omega)
theorem idL_new {n : Nat} {p : Int} (h : okP n p = true) : newO (idL n) p = p := by
  have h5 := okP_iff.1 h
  by_cases e : p = 0
  · subst e
    exact newO_no (fun hm => by unfold idL at hm; obtain ⟨i, _, e⟩ := List.mem_map.1 hm; omega)
  · have := newO_get (idL_nd n) (idL_get (n := n) (i := (p - 1).toNat) (by omega))
    rw [show (((p - 1).toNat : Nat) : Int) + 1 = p by omega] at this
    exact this
/-- What Check and the walk ask of a node. -/
def Nv.k (x : Nv) : List Int × Nat := (x.ps, x.bs.length)
/-- How many bytes nodes have. -/
def dataN : List Nv → Nat
  | [] => 0
  | x :: r => x.bs.length + dataN r
end Go.Proofs.YtdppnggchpchgaaDoor
