/- Texts joined: TxK CardB TxE TxF TxG CaQ TxH. -/
import Derived.Test.YtdppnggchpchgaaDoorCb8
import Derived.Deep.CutRange
import Derived.Test.YtdppnggchpchgaaDoorRows
import Derived.Test.YtdppnggchpchgaaDoorTie
import Derived.Test.YtdppnggchpchgaaDoorCards
import Derived.Lib.LaidTab
import Derived.LaidMore
import Derived.SevenTiedAt
import Derived.Stop.LaidErr
/- What loamlaw18.known answers: true. Conditions: the table deBruijn64tab. -/
namespace Go.Proofs.YtdppnggchpchgaaDoor
set_option linter.unusedVariables false
set_option linter.unusedSimpArgs false
open Go.RowKit Go.Maps
def kaN (s : Nat) : List Nv := [⟨none, 0, some ⟨s, 0, none⟩, 1, [], [120#8]⟩, ⟨some ⟨s + 1, 0, none⟩, 1, none, 0, [1], []⟩]
def kaR : List Rv := [⟨⟨#[114]⟩, 2⟩]
def kaG (s : Nat) : Gv := ⟨some ⟨s + 1 + 1, 0, none⟩, 2, some ⟨s + 1 + 1 + 1, 0, none⟩, 1, kaN s, kaR⟩
def kbN (t : Nat) : List Nv := [⟨some ⟨t, 0, none⟩, 1, none, 0, [3], []⟩, ⟨none, 0, none, 0, [], []⟩, ⟨none, 0, some ⟨t + 1, 0, none⟩, 1, [], [120#8]⟩]
def kbR : List Rv := [⟨⟨#[114]⟩, 1⟩]
def kbG (t : Nat) : Gv := ⟨some ⟨t + 1 + 1, 0, none⟩, 3, some ⟨t + 1 + 1 + 1, 0, none⟩, 1, kbN t, kbR⟩
theorem kaM (s : Nat) : canM (kaG s) = [([2], []), ([], [120#8])] ∧ canR (kaG s) = [⟨⟨#[114]⟩, 1⟩] := by
  obtain ⟨e1, e2⟩ := can_m (a := kaG s) (b := kaG 0) rfl rfl
  rw [e1, e2]
  exact ⟨by decide +kernel, by kernel_rfl⟩
theorem kbM (s : Nat) : canM (kbG s) = [([2], []), ([], [120#8])] ∧ canR (kbG s) = [⟨⟨#[114]⟩, 1⟩] := by
  obtain ⟨e1, e2⟩ := can_m (a := kbG s) (b := kbG 0) rfl rfl
  rw [e1, e2]
  exact ⟨by decide +kernel, by kernel_rfl⟩
theorem kaW (s : Nat) : walkL (kaG s).n ((kaG s).r.map (·.t)) = [2, 1] := by
  have e : walkL (kaG s).n ((kaG s).r.map (·.t)) = walkL (kaG 0).n ((kaG 0).r.map (·.t)) := walk_m rfl _
  rw [e]
  decide +kernel
theorem kaF (s : Nat) : FewP (kaG s) := by
  refine ⟨by show 2 ≤ 60; omega, by show 1 ≤ 80; omega, fun x hx => ?_, fun r hr => ?_⟩
  · have h : x ∈ kaN s := hx
    simp only [kaN, List.mem_cons, List.not_mem_nil, or_false] at h
    rcases h with rfl | rfl <;> simp
  · have h : r ∈ kaR := hr
    simp only [kaR, List.mem_cons, List.not_mem_nil, or_false] at h
    subst h
    show (1 : Nat) ≤ 40
    omega
theorem kbF (s : Nat) : FewP (kbG s) := by
  refine ⟨by show 3 ≤ 60; omega, by show 1 ≤ 80; omega, fun x hx => ?_, fun r hr => ?_⟩
  · have h : x ∈ kbN s := hx
    simp only [kbN, List.mem_cons, List.not_mem_nil, or_false] at h
    rcases h with rfl | rfl | rfl <;> simp
  · have h : r ∈ kbR := hr
    simp only [kbR, List.mem_cons, List.not_mem_nil, or_false] at h
    subst h
    show (1 : Nat) ≤ 40
    omega
theorem kaO (s : Nat) : CanOk (kaG s) := by
  refine ⟨(kaF s).small, by show 1 ≤ 100000; omega, fun x hx p hp => ?_, fun r hr => ?_⟩
  · have h : x ∈ kaN s := hx
    simp only [kaN, List.mem_cons, List.not_mem_nil, or_false] at h
    rcases h with rfl | rfl
    · cases hp
    · simp only [List.mem_cons, List.not_mem_nil, or_false] at hp
      subst hp
      decide
  · have h : r ∈ kaR := hr
    simp only [kaR, List.mem_cons, List.not_mem_nil, or_false] at h
    subst h
    decide
theorem kbO (s : Nat) : CanOk (kbG s) := by
  refine ⟨(kbF s).small, by show 1 ≤ 100000; omega, fun x hx p hp => ?_, fun r hr => ?_⟩
  · have h : x ∈ kbN s := hx
    simp only [kbN, List.mem_cons, List.not_mem_nil, or_false] at h
    rcases h with rfl | rfl | rfl
    · simp only [List.mem_cons, List.not_mem_nil, or_false] at hp
      subst hp
      decide
    · cases hp
    · cases hp
  · have h : r ∈ kbR := hr
    simp only [kbR, List.mem_cons, List.not_mem_nil, or_false] at h
    subst h
    decide
theorem kaA {W : World} {s : Nat} (h0 : W.cell? ⟨s, 0, none⟩ = some (.int .u8 120)) (h1 : W.cell? ⟨s + 1, 0, none⟩ = some (.int .i64 1)) (h2 : Bk W (s + 1 + 1) 52 #[.slice none 0 0, .slice (some ⟨s, 0, none⟩) 1 1, .slice (some ⟨s + 1, 0, none⟩) 1 1, .slice none 0 0]) (h3 : Bk W (s + 1 + 1 + 1) 55 #[.string ⟨#[114]⟩, .int .i64 2]) : (kaG s).At W W.heap.size := by
  have l3 := h3.lt
  have l2 := h2.lt
  refine ⟨fun i hi => ?_, fun i hi => ?_, by show 2 ≤ 2; omega, by show 1 ≤ 1; omega⟩
  · have hi1 : i = 0 ∨ i = 1 := by have h : i < 2 := hi; omega
    rcases hi1 with rfl | rfl
    · refine ⟨⟨s + 1 + 1, 0, none⟩, rfl, l2, h2.cell 0, h2.cell 1, ⟨fun j hj => absurd hj (by show ¬ j < 0; omega), fun j hj => ?_, by show 0 ≤ 0; omega, by show 1 ≤ 1; omega⟩⟩
      have : j = 0 := by have h : j < 1 := hj; omega
      subst this
      exact ⟨⟨s, 0, none⟩, rfl, by show s < _; omega, h0⟩
    · refine ⟨⟨s + 1 + 1, 0, none⟩, rfl, l2, h2.cell 2, h2.cell 3, ⟨fun j hj => ?_, fun j hj => absurd hj (by show ¬ j < 0; omega), by show 1 ≤ 1; omega, by show 0 ≤ 0; omega⟩⟩
      have : j = 0 := by have h : j < 1 := hj; omega
      subst this
      exact ⟨⟨s + 1, 0, none⟩, rfl, by show s + 1 < _; omega, h1⟩
  · have hi1 : i = 0 := by have h : i < 1 := hi; omega
    subst hi1
    exact ⟨⟨s + 1 + 1 + 1, 0, none⟩, rfl, l3, h3.cell 0, h3.cell 1⟩
theorem kbA {W : World} {s : Nat} (h0 : W.cell? ⟨s, 0, none⟩ = some (.int .i64 3)) (h1 : W.cell? ⟨s + 1, 0, none⟩ = some (.int .u8 120)) (h2 : Bk W (s + 1 + 1) 52 #[.slice (some ⟨s, 0, none⟩) 1 1, .slice none 0 0, .slice none 0 0, .slice none 0 0, .slice none 0 0, .slice (some ⟨s + 1, 0, none⟩) 1 1]) (h3 : Bk W (s + 1 + 1 + 1) 55 #[.string ⟨#[114]⟩, .int .i64 1]) : (kbG s).At W W.heap.size := by
  have l3 := h3.lt
  have l2 := h2.lt
  refine ⟨fun i hi => ?_, fun i hi => ?_, by show 3 ≤ 3; omega, by show 1 ≤ 1; omega⟩
  · have hi1 : i = 0 ∨ i = 1 ∨ i = 2 := by have h : i < 3 := hi; omega
    rcases hi1 with rfl | rfl | rfl
    · refine ⟨⟨s + 1 + 1, 0, none⟩, rfl, l2, h2.cell 0, h2.cell 1, ⟨fun j hj => ?_, fun j hj => absurd hj (by show ¬ j < 0; omega), by show 1 ≤ 1; omega, by show 0 ≤ 0; omega⟩⟩
      have : j = 0 := by have h : j < 1 := hj; omega
      subst this
      exact ⟨⟨s, 0, none⟩, rfl, by show s < _; omega, h0⟩
    · exact ⟨⟨s + 1 + 1, 0, none⟩, rfl, l2, h2.cell 2, h2.cell 3, ⟨fun j hj => absurd hj (by show ¬ j < 0; omega), fun j hj => absurd hj (by show ¬ j < 0; omega), by show 0 ≤ 0; omega, by show 0 ≤ 0; omega⟩⟩
    · refine ⟨⟨s + 1 + 1, 0, none⟩, rfl, l2, h2.cell 4, h2.cell 5, ⟨fun j hj => absurd hj (by show ¬ j < 0; omega), fun j hj => ?_, by show 0 ≤ 0; omega, by show 1 ≤ 1; omega⟩⟩
      have : j = 0 := by have h : j < 1 := hj; omega
      subst this
      exact ⟨⟨s + 1, 0, none⟩, rfl, by show s + 1 < _; omega, h1⟩
  · have hi1 : i = 0 := by have h : i < 1 := hi; omega
    subst hi1
    exact ⟨⟨s + 1 + 1 + 1, 0, none⟩, rfl, l3, h3.cell 0, h3.cell 1⟩
theorem kText : strB (textL [⟨⟨#[114]⟩, 1⟩] [([2], []), ([], [120#8])]) = ⟨#[114, 32, 45, 62, 32, 49, 10, 49, 58, 32, 50, 10, 50, 58, 32, 120, 55, 56, 10]⟩ := by
  have h : (strB (textL [⟨⟨#[114]⟩, 1⟩] [([2], []), ([], [120#8])])).data = (⟨#[114, 32, 45, 62, 32, 49, 10, 49, 58, 32, 50, 10, 50, 58, 32, 120, 55, 56, 10]⟩ : ByteArray).data := by decide +kernel
  exact congrArg ByteArray.mk h
theorem add_nought (a : Addr) : a.add 0 = a := by
  obtain ⟨b, o, m⟩ := a
  unfold Addr.add
  split <;> simp_all
theorem field_g (A B : Option Addr) (n c m d : Nat) (W : World) : (Instr.field 25 (.agg #[.slice A n c, .slice B m d]) 0).run Tryd.prog W = .ok (.slice A n c) W := by kernel_rfl
set_option maxHeartbeats 4000000
set_option maxRecDepth 100000
theorem known18_c (w : World) (ht : w.cell? ⟨2, 15, none⟩ = some (.int .u8 4)) : Calls Tryd.prog 7 #[] w (RetP (.bool true) w) := by
  have HT := Lib.hid (fun W (b : Below w.heap.size w W) => (b.cell (tab_lt ht)).trans ht)
  clear ht
  have kc := Joins.run_convert_bytes_const_at (P := Tryd.prog) w 45 5 #[.int .u8 120] 1 1 w.heap.size (by simp) Tryd.underlying45 Tryd.underlying5
  go_enter Tryd.func7, Tryd.ntmps7
  go_wp2_with fail
  obtain ⟨s, hs⟩ : ∃ s, s = w.heap.size := ⟨_, rfl⟩
  obtain ⟨w1, hw1⟩ : ∃ W, W = w.alloc (.cells #[.int .u8 120] 5 (1, 2)) := ⟨_, rfl⟩
  obtain ⟨w2, hw2⟩ : ∃ W, W = w1.alloc (.cells #[.int .i64 1] 3) := ⟨_, rfl⟩
  rw [← hs, ← hw1, ← hw2]
  obtain ⟨w3, hw3⟩ : ∃ W, W = w2.alloc (.cells #[.slice none 0 0, .slice (some ⟨s, 0, none⟩) 1 1, .slice (some ⟨s + 1, 0, none⟩) 1 1, .slice none 0 0] 52) := ⟨_, rfl⟩
  obtain ⟨w4, hw4⟩ : ∃ W, W = w3.alloc (.cells #[.string ⟨#[114]⟩, .int .i64 2] 55) := ⟨_, rfl⟩
  obtain ⟨w5, hw5⟩ : ∃ W, W = w4.alloc (.cells #[.slice (some ⟨s + 1 + 1, 0, none⟩) 2 2, .slice (some ⟨s + 1 + 1 + 1, 0, none⟩) 1 1] 25) := ⟨_, rfl⟩
  obtain ⟨t, ht⟩ : ∃ t, t = s + 1 + 1 + 1 + 1 + 1 := ⟨_, rfl⟩
  rw [← hw3, ← hw4, ← hw5, ← ht]
  have z1 : w1.heap.size = s + 1 := by rw [hw1, hs]; simp
  have z2 : w2.heap.size = s + 1 + 1 := by rw [hw2, ← z1]; simp
  have z3 : w3.heap.size = s + 1 + 1 + 1 := by rw [hw3, ← z2]; simp
  have z4 : w4.heap.size = s + 1 + 1 + 1 + 1 := by rw [hw4, ← z3]; simp
  have z5 : w5.heap.size = t := by rw [hw5, ht, ← z4]; simp
  have c1 : w1.cell? ⟨s, 0, none⟩ = some (.int .u8 120) := by
    rw [hw1, hs]
    have := heap_alloc_new w (.cells #[.int .u8 120] 5 (1, 2))
    unfold World.cell?
    rw [this]; rfl
  have c2 : Bk w2 (s + 1) 3 #[.int .i64 1] := by rw [hw2, ← z1]; exact Bk.new w1 _ _
  have c3 : Bk w3 (s + 1 + 1) 52 #[.slice none 0 0, .slice (some ⟨s, 0, none⟩) 1 1, .slice (some ⟨s + 1, 0, none⟩) 1 1, .slice none 0 0] := by rw [hw3, ← z2]; exact Bk.new w2 _ _
  have c4 : Bk w4 (s + 1 + 1 + 1) 55 #[.string ⟨#[114]⟩, .int .i64 2] := by rw [hw4, ← z3]; exact Bk.new w3 _ _
  have c5 : Bk w5 (s + 1 + 1 + 1 + 1) 25 #[.slice (some ⟨s + 1 + 1, 0, none⟩) 2 2, .slice (some ⟨s + 1 + 1 + 1, 0, none⟩) 1 1] := by rw [hw5, ← z4]; exact Bk.new w4 _ _
  have b1 : Below w.heap.size w w1 := by rw [hw1]; exact Gw.alloc w _
  have b2 : Below w1.heap.size w1 w2 := by rw [hw2]; exact Gw.alloc w1 _
  have b3 : Below w2.heap.size w2 w3 := by rw [hw3]; exact Gw.alloc w2 _
  have b4 : Below w3.heap.size w3 w4 := by rw [hw4]; exact Gw.alloc w3 _
  have b5 : Below w4.heap.size w4 w5 := by rw [hw5]; exact Gw.alloc w4 _
  have b45 := b4.trans (b5.mono b4.size)
  have b35 := b3.trans (b45.mono b3.size)
  have b25 := b2.trans (b35.mono b2.size)
  have ha := kaA (W := w5) (s := s) ((b25.cell (p := ⟨s, 0, none⟩) (cell_lt c1)).trans c1) ((c2.below b35 c2.lt).cell 0) (c3.below b45 c3.lt) (c4.below b5 c4.lt)
  obtain ⟨ga, hga⟩ : ∃ g, g = s + 1 + 1 + 1 + 1 := ⟨_, rfl⟩
  rw [← hga] at c5 ⊢
  have HA := Lib.hid (And.intro ha (And.intro c5 (b1.trans (b25.mono b1.size))))
  have HZ := Lib.hid z5
  have hgt : ga < t := by omega
  clear hw1 hw2 hw3 hw4 hw5 z1 z2 z3 z4 c1 c2 c3 c4 c5 b1 b2 b3 b4 b5 b45 b35 b25 ha kc hs ht hga
  have kc := Joins.run_convert_bytes_const_at (P := Tryd.prog) (w5.alloc (.cells #[.int .i64 3] 3)) 45 5 #[.int .u8 120] 1 1 (t + 1) (by simp [z5]) Tryd.underlying45 Tryd.underlying5
  obtain ⟨g0, g1⟩ := HA.out.2.1.two
  have hgl := HA.out.2.1.lt
  rw [kc]
  simp only [Result.andThen]
  rw [Oper.upon_value]
  clear kc
  go_upto_region 3 with fail
  obtain ⟨w6, hw6⟩ : ∃ W, W = w5.alloc (.cells #[.int .i64 3] 3) := ⟨_, rfl⟩
  obtain ⟨w7, hw7⟩ : ∃ W, W = w6.alloc (.cells #[.int .u8 120] 5 (1, 2)) := ⟨_, rfl⟩
  obtain ⟨w8, hw8⟩ : ∃ W, W = w7.alloc (.cells #[.slice (some ⟨t, 0, none⟩) 1 1, .slice none 0 0, .slice none 0 0, .slice none 0 0, .slice none 0 0, .slice (some ⟨t + 1, 0, none⟩) 1 1] 52) := ⟨_, rfl⟩
  obtain ⟨w9, hw9⟩ : ∃ W, W = w8.alloc (.cells #[.string ⟨#[114]⟩, .int .i64 1] 55) := ⟨_, rfl⟩
  obtain ⟨wx, hwx⟩ : ∃ W, W = w9.alloc (.cells #[.slice (some ⟨t + 1 + 1, 0, none⟩) 3 3, .slice (some ⟨t + 1 + 1 + 1, 0, none⟩) 1 1] 25) := ⟨_, rfl⟩
  obtain ⟨gb, hgb⟩ : ∃ g, g = t + 1 + 1 + 1 + 1 := ⟨_, rfl⟩
  rw [← hw6, ← hw7, ← hw8, ← hw9, ← hwx, ← hgb]
  have z6 : w6.heap.size = t + 1 := by rw [hw6, ← z5]; simp
  have z7 : w7.heap.size = t + 1 + 1 := by rw [hw7, ← z6]; simp
  have z8 : w8.heap.size = t + 1 + 1 + 1 := by rw [hw8, ← z7]; simp
  have z9 : w9.heap.size = t + 1 + 1 + 1 + 1 := by rw [hw9, ← z8]; simp
  have c6 : Bk w6 t 3 #[.int .i64 3] := by rw [hw6, ← z5]; exact Bk.new w5 _ _
  have c7 : w7.cell? ⟨t + 1, 0, none⟩ = some (.int .u8 120) := by
    rw [hw7, ← z6]
    have := heap_alloc_new w6 (.cells #[.int .u8 120] 5 (1, 2))
    unfold World.cell?
    rw [this]; rfl
  have c8 : Bk w8 (t + 1 + 1) 52 #[.slice (some ⟨t, 0, none⟩) 1 1, .slice none 0 0, .slice none 0 0, .slice none 0 0, .slice none 0 0, .slice (some ⟨t + 1, 0, none⟩) 1 1] := by rw [hw8, ← z7]; exact Bk.new w7 _ _
  have c9 : Bk w9 (t + 1 + 1 + 1) 55 #[.string ⟨#[114]⟩, .int .i64 1] := by rw [hw9, ← z8]; exact Bk.new w8 _ _
  have cx : Bk wx gb 25 #[.slice (some ⟨t + 1 + 1, 0, none⟩) 3 3, .slice (some ⟨t + 1 + 1 + 1, 0, none⟩) 1 1] := by rw [hwx, hgb, ← z9]; exact Bk.new w9 _ _
  have b6 : Below w5.heap.size w5 w6 := by rw [hw6]; exact Gw.alloc w5 _
  have b7 : Below w6.heap.size w6 w7 := by rw [hw7]; exact Gw.alloc w6 _
  have b8' : Below w7.heap.size w7 w8 := by rw [hw8]; exact Gw.alloc w7 _
  have b9 : Below w8.heap.size w8 w9 := by rw [hw9]; exact Gw.alloc w8 _
  have bx : Below w9.heap.size w9 wx := by rw [hwx]; exact Gw.alloc w9 _
  have b9x := b9.trans (bx.mono b9.size)
  have b8x := b8'.trans (b9x.mono b8'.size)
  have b7x := b7.trans (b8x.mono b7.size)
  have b6x := b6.trans (b7x.mono b6.size)
  have hb := kbA (W := wx) (s := t) ((c6.below b7x c6.lt).cell 0) ((b8x.cell (p := ⟨t + 1, 0, none⟩) (cell_lt c7)).trans c7) (c8.below b9x c8.lt) (c9.below bx c9.lt)
  have HX := Lib.hid (show ∀ W, Below wx.heap.size wx W → (kaG s).At W W.heap.size ∧ (kbG t).At W W.heap.size ∧ Bk W ga 25 #[.slice (some ⟨s + 1 + 1, 0, none⟩) 2 2, .slice (some ⟨s + 1 + 1 + 1, 0, none⟩) 1 1] ∧ Bk W gb 25 #[.slice (some ⟨t + 1 + 1, 0, none⟩) 3 3, .slice (some ⟨t + 1 + 1 + 1, 0, none⟩) 1 1] ∧ Below w.heap.size w W from fun W b =>
    have bb := b6x.trans (b.mono b6x.size)
    ⟨HA.out.1.up bb, hb.up b, HA.out.2.1.below bb HA.out.2.1.lt, cx.below b cx.lt, HA.out.2.2.trans (bb.mono HA.out.2.2.size)⟩)
  have HSm := Lib.hid (fun W b => show Calls Tryd.prog 21 #[.agg #[.slice (some ⟨s + 1 + 1, 0, none⟩) 2 2, .slice (some ⟨s + 1 + 1 + 1, 0, none⟩) 1 1], .agg #[.slice (some ⟨t + 1 + 1, 0, none⟩) 3 3, .slice (some ⟨t + 1 + 1 + 1, 0, none⟩) 1 1]] W (RetP (.bool true) W) from by
    have h := csame_c W (kaG s) (kbG t) (HX.out W b).1 (HX.out W b).2.1 (kaO s) (kbO t)
    rw [sameC_true ((kaM s).1.trans (kbM t).1.symm) ((kaM s).2.trans (kbM t).2.symm)] at h
    exact h)
  have HEq := Lib.hid (fun W b => show Calls Tryd.prog 20 #[.agg #[.slice (some ⟨s + 1 + 1, 0, none⟩) 2 2, .slice (some ⟨s + 1 + 1 + 1, 0, none⟩) 1 1], .agg #[.slice (some ⟨t + 1 + 1, 0, none⟩) 3 3, .slice (some ⟨t + 1 + 1 + 1, 0, none⟩) 1 1]] W (RetP (.bool false) W) from by
    have h := equalG_c W (kaG s) (kbG t) (HX.out W b).1 (HX.out W b).2.1 (kaF s).small
    have e : sameG (kaG s) (kbG t) = false := same_false (fun e => by
      have e2 := congrArg List.length e.2
      have e3 : (2 : Nat) = 3 := e2
      omega)
    rw [e] at h
    exact h)
  have HTx := Lib.hid (fun W b => show Calls Tryd.prog 14 #[.agg #[.slice (some ⟨s + 1 + 1, 0, none⟩) 2 2, .slice (some ⟨s + 1 + 1 + 1, 0, none⟩) 1 1]] W (RetP (.string ⟨#[114, 32, 45, 62, 32, 49, 10, 49, 58, 32, 50, 10, 50, 58, 32, 120, 55, 56, 10]⟩) W) from by
    have h := text_c W (kaG s) (HX.out W b).1 (kaO s) (text_ok (kaF s)) (HT.out W (HX.out W b).2.2.2.2)
    rw [(kaM s).1, (kaM s).2, kText] at h
    exact h)
  have HCn := Lib.hid (fun W b => show Calls Tryd.prog 11 #[.agg #[.slice (some ⟨t + 1 + 1, 0, none⟩) 3 3, .slice (some ⟨t + 1 + 1 + 1, 0, none⟩) 1 1]] W fun e w2 => ∃ u, e = .returned u ∧ Below W.heap.size W w2 ∧ CaV (kbG t) u w2 from can_v (g := kbG t) rfl (kbO t) (HX.out W b).2.1)
  have HOr := Lib.hid (fun W b => show Calls Tryd.prog 17 #[.agg #[.slice (some ⟨s + 1 + 1, 0, none⟩) 2 2, .slice (some ⟨s + 1 + 1 + 1, 0, none⟩) 1 1]] W fun e w' => ∃ A c, e = .returned (.slice A 2 c) ∧ Rd iV w' w'.heap.size A [2, 1] ∧ Below W.heap.size W w' from by
    have h := order_c W (kaG s) (HX.out W b).1 (kaF s).small
    rw [kaW] at h
    refine h.mono ?_
    rintro e w' ⟨A, n, c, rfl, rfl, hr, hb⟩
    exact ⟨A, c, rfl, hr, hb⟩)
  have H10 := Lib.hid (HX.out wx (Below.refl _ _))
  clear hw6 hw7 hw8 hw9 hwx hgb z5 z6 z7 z8 z9 c6 c7 c8 c9 cx b6 b7 b8' b9 bx b9x b8x b7x b6x hb g0 g1 hgl hgt HZ HA
  obtain ⟨g0, g1⟩ := H10.out.2.2.1.two
  obtain ⟨k0, k1⟩ := H10.out.2.2.2.1.two
  have l0 := H10.out.2.2.1.lt
  have l1 := H10.out.2.2.2.1.lt
  go_wp2_with fail
  refine Calls.mono (HSm.out wx (Below.refl _ _)) ?_
  rintro r wy ⟨rfl, by_⟩
  have HY := Lib.hid by_
  have HB := Lib.hid (HX.out wy by_)
  clear by_ g0 g1 k0 k1 l0 l1
  obtain ⟨g0, g1⟩ := HB.out.2.2.1.two
  obtain ⟨k0, k1⟩ := HB.out.2.2.2.1.two
  have l0 := HB.out.2.2.1.lt
  have l1 := HB.out.2.2.2.1.lt
  go_wp2_with fail
  refine Calls.mono (HEq.out wy HY.out) ?_
  rintro r wz ⟨rfl, by_⟩
  have HY2 := Lib.hid (HY.out.trans (by_.mono HY.out.size))
  clear by_ g0 g1 k0 k1 l0 l1 HB
  have HB := Lib.hid (HX.out wz HY2.out)
  obtain ⟨g0, g1⟩ := HB.out.2.2.1.two
  have l0 := HB.out.2.2.1.lt
  go_wp2_with fail
  refine Calls.mono (HTx.out wz HY2.out) ?_
  rintro r wA ⟨rfl, by_⟩
  have HY3 := Lib.hid (HY2.out.trans (by_.mono HY2.out.size))
  clear by_ g0 g1 l0 HB
  have HB := Lib.hid (HX.out wA HY3.out)
  obtain ⟨k0, k1⟩ := HB.out.2.2.2.1.two
  have l1 := HB.out.2.2.2.1.lt
  go_wp2_with fail
  refine Calls.mono (HCn.out wA HY3.out) ?_
  rintro r wB ⟨u, rfl, by_, c, rfl, hc1, hc2, hc3⟩
  have hcl : c.n.length = 2 := by
    have h := congrArg List.length hc2
    rw [(kbM t).1, List.length_map] at h
    exact h
  have hcv : c.v = .agg #[.slice c.A 2 c.c, .slice c.A2 c.r.length c.c2] := by
    show Value.agg #[.slice c.A c.n.length c.c, _] = _
    rw [hcl]; rfl
  rw [hcv]
  have hfg := field_g c.A c.A2 2 c.c c.r.length c.c2 wB
  have HY4 := Lib.hid (HY3.out.trans (by_.mono HY3.out.size))
  clear by_ k0 k1 l1 HB hc1 hc2 hc3 hcl hcv
  have HB := Lib.hid (HX.out wB HY4.out)
  obtain ⟨g0, g1⟩ := HB.out.2.2.1.two
  have l0 := HB.out.2.2.1.lt
  go_wp2_with fail
  refine Calls.mono (HOr.out wB HY4.out) ?_
  rintro r wC ⟨OA, oc, rfl, _, by_⟩
  have HY5 := Lib.hid (HY4.out.trans (by_.mono HY4.out.size))
  clear by_ g0 g1 l0 HB
  have HB := Lib.hid (HX.out wC HY5.out)
  obtain ⟨g0, g1⟩ := HB.out.2.2.1.two
  have l0 := HB.out.2.2.1.lt
  go_wp2_with fail
  refine Calls.mono (HOr.out wC HY5.out) ?_
  rintro r wD ⟨PA, pc, rfl, hr, by_⟩
  have HY6 := Lib.hid (HX.out wD (HY5.out.trans (by_.mono HY5.out.size))).2.2.2.2
  obtain ⟨ad, rfl, hal, hcell⟩ : ∃ ad, PA = some ad ∧ ad.block < wD.heap.size ∧ wD.cell? (ad.add 0) = some (.int .i64 2) := by
    obtain ⟨ad, e, hb, hc⟩ := hr 0 (by decide)
    exact ⟨ad, e, hb, hc⟩
  rw [add_nought] at hcell
  clear by_ g0 g1 l0 HB hr
  go_wp2_with fail
  go_ret
  exact ⟨rfl, HY6.out⟩
end Go.Proofs.YtdppnggchpchgaaDoor
/- Stage 18's cards: what the listed tables give (math/bits.deBruijn64tab's place 15), and the door's own heap as a witness. Conditions: the row's own. -/
namespace Go.Proofs.YtdppnggchpchgaaDoor
set_option linter.unusedVariables false
set_option linter.unusedSimpArgs false
open Go.RowKit
def laid18 : List (String × DataW Unit) := Rows.canonTwoRow.laid
def nm64 : String := match Rows.canonTwoRow.laid with
  | [_, (n, _), _] => n
  | _ => default
def nm10 : String := match Rows.canonTwoRow.laid with
  | [_, _, (n, _)] => n
  | _ => default
theorem gT64 : Tryd.prog.globalNamed nm64 = some 2 := by kernel_rfl
theorem gT64t : (Tryd.prog.globals[2]?).map (·.type) = some 103 := by kernel_rfl
def tab64 : List Int := match (Rows.laid_math_bits_deBruijn64tab : DataW Unit) with
  | .agg xs => xs.map fun x => match x with
    | .lit (.int _ z) => z
    | _ => 0
  | _ => []
theorem tab64_is : (Rows.laid_math_bits_deBruijn64tab : DataW Unit) = Lib.tabData .u8 tab64 := by kernel_rfl
theorem tab64_at : 15 < tab64.length ∧ tab64.getD 15 0 = 4 := by decide +kernel
theorem of_laid {W : World} (h : laidMetH Tryd.prog laid18 W) : W.cell? ⟨2, 15, none⟩ = some (.int .u8 4) := by
  rw [MakeChecks.laidMetH_plain _ _ _ (by kernel_rfl)] at h
  have h2 : laidMet Tryd.prog [(nm64, Rows.laid_math_bits_deBruijn64tab), (nm10, Rows.laid_internal_strconv_uint64pow10)] W := laidMet.tail h
  rw [tab64_is] at h2
  have ht := Lib.tabIs_of_head gT64 gT64t Tryd.underlying103 Tryd.underlying5 (by kernel_rfl) (by kernel_rfl) h2
  have := ht.cell gT64 15 tab64_at.1
  rw [tab64_at.2] at this
  exact this
theorem door_met (os : Os) (args : Array Value) : laidMetH Tryd.prog laid18 ((World.doorLaid Tryd.prog 24 os).forCall (fun _ _ => 0) ⟨#[], args, []⟩).memory :=
  laidMetH_of_parts3 (fuel := 8) (laidMet_of_run' 8 (by kernel_rfl) (by kernel_rfl)) (by kernel_rfl) (by kernel_rfl)
end Go.Proofs.YtdppnggchpchgaaDoor
/- The reference's Decimal and Hex. Conditions: below a hundred; lengths. -/
namespace Go.Proofs.YtdppnggchpchgaaDoor
set_option linter.unusedVariables false
set_option linter.unusedSimpArgs false
open Go.RowKit
theorem conv1 (w : World) (z : Int) (d : BitVec 8) (h : z = U8 d) (g : Nat) (hg : g = w.heap.size) :
    (convert 45 9 (.slice (some ⟨g, 0, none⟩) 1 1)).run Tryd.prog (w.alloc (.cells #[.int .u8 z] 5)) = .ok (.string (strB [d])) (w.alloc (.cells #[.int .u8 z] 5)) := by
  subst h hg
  exact str_conv [d] (some ⟨w.heap.size, 0, none⟩) 1 (w.heap.size + 1) _ (rd1_new (f := b8) (w := w) (E := 5) (y := d) (u := .int .u8 (U8 d)) rfl)
theorem dig8 (r : Nat) (h : r < 10) : (48 : Int) + (r : Int) = U8 (BitVec.ofNat 8 (48 + r)) := by
  have e : U8 (BitVec.ofNat 8 (48 + r)) = (((BitVec.ofNat 8 (48 + r)).toNat : Nat) : Int) := rfl
  rw [e, BitVec.toNat_ofNat]
  omega
set_option maxHeartbeats 2000000
set_option maxRecDepth 100000
theorem dec_small (r : Nat) (h : r < 10) (w : World) : Calls Tryd.prog 33 #[.int .i64 r] w (RetP (.string (strB [BitVec.ofNat 8 (48 + r)])) w) := by
  have hd := dig8 r h
  obtain ⟨d, hdd⟩ : ∃ d, d = BitVec.ofNat 8 (48 + r) := ⟨_, rfl⟩
  rw [← hdd] at hd ⊢
  have hcv := conv1 w ((48 : Int) + (r : Int)) d hd w.heap.size rfl
  have h1 : (r : Int) < 10 := by omega
  have h0 : (0 : Int) ≤ (r : Int) := by omega
  have hm : (r : Int).tmod 10 = (r : Int) := Int.tmod_eq_of_lt h0 h1
  clear hd hdd h
  go_enter Tryd.func33, Tryd.ntmps33
  go_wp2_with fail
  have hb : Below w.heap.size w (w.alloc (.cells #[.int .u8 ((48 : Int) + (r : Int))] 5)) := Gw.alloc w _
  refine wp_loop_rounds 1 ?_
  rw [rounds_succ]
  go_wp2_with fail
  go_ret
  exact ⟨rfl, hb⟩
theorem dec_big (q r : Nat) (hq0 : 1 ≤ q) (hq9 : q < 10) (hr : r < 10) (w : World) : Calls Tryd.prog 33 #[.int .i64 ((q * 10 + r : Nat) : Int)] w (RetP (.string (strB [BitVec.ofNat 8 (48 + q), BitVec.ofNat 8 (48 + r)])) w) := by
  have hd := dig8 r hr
  have hd2 := dig8 q hq9
  obtain ⟨d, hdd⟩ : ∃ d, d = BitVec.ofNat 8 (48 + r) := ⟨_, rfl⟩
  obtain ⟨d2, hdd2⟩ : ∃ d, d = BitVec.ofNat 8 (48 + q) := ⟨_, rfl⟩
  rw [← hdd] at hd ⊢
  rw [← hdd2] at hd2 ⊢
  obtain ⟨w1, hw1⟩ : ∃ W, W = w.alloc (.cells #[.int .u8 ((48 : Int) + (r : Int))] 5) := ⟨_, rfl⟩
  have hcv := conv1 w ((48 : Int) + (r : Int)) d hd w.heap.size rfl
  have hz1 : w1.heap.size = w.heap.size + 1 := by rw [hw1]; simp
  have hcv2 := conv1 w1 ((48 : Int) + (q : Int)) d2 hd2 (w.heap.size + 1) hz1.symm
  rw [hw1] at hcv2
  have a4 : strB [d2] ++ strB [d] = strB [d2, d] := strB_app [d2] [d]
  have a5 : (strB [d2]).size = 1 := rfl
  have a6 : (strB [d]).size = 1 := rfl
  obtain ⟨n, hn⟩ : ∃ n, n = q * 10 + r := ⟨_, rfl⟩
  rw [← hn]
  have h1 : (10 : Int) ≤ (n : Int) := by omega
  have h2 : (n : Int) ≤ 99 := by omega
  have hm : (n : Int).tmod 10 = (r : Int) := by rw [Int.tmod_eq_emod_of_nonneg (by omega)]; omega
  have hq : (n : Int).tdiv 10 = (q : Int) := by rw [Int.tdiv_eq_ediv_of_nonneg (by omega)]; omega
  have hq1 : (q : Int) < 10 := by omega
  have hq2 : (0 : Int) ≤ (q : Int) := by omega
  have hmq : (q : Int).tmod 10 = (q : Int) := Int.tmod_eq_of_lt hq2 hq1
  have hr1 : (r : Int) < 10 := by omega
  have hr2 : (0 : Int) ≤ (r : Int) := by omega
  have hb : Below w.heap.size w ((w.alloc (.cells #[.int .u8 ((48 : Int) + (r : Int))] 5)).alloc (.cells #[.int .u8 ((48 : Int) + (q : Int))] 5)) := (Gw.alloc w _).trans ((Gw.alloc _ _).mono (Gw.alloc w _).size)
  have HB := Lib.hid hb
  clear hd hd2 hdd hdd2 hn hq0 hq9 hr hb hw1 hz1
  go_enter Tryd.func33, Tryd.ntmps33
  go_wp2_with fail
  refine wp_loop_rounds 2 ?_
  rw [rounds_succ]
  go_wp2_with fail
  rw [rounds_succ]
  go_wp2_with fail
  go_ret
  exact ⟨rfl, HB.out⟩
theorem dec_c (p : Int) (h0 : 0 ≤ p) (h : p < 100) (w : World) : Calls Tryd.prog 33 #[.int .i64 p] w (RetP (.string (strB (decL p.toNat))) w) := by
  obtain ⟨i, rfl⟩ := Int.eq_ofNat_of_zero_le h0
  rw [Int.toNat_natCast]
  unfold decL
  by_cases c : i < 10
  · rw [if_pos c]
    exact dec_small i c w
  · rw [if_neg c]
    have k := dec_big (i / 10) (i % 10) (by omega) (by omega) (by omega) w
    rw [show i / 10 * 10 + i % 10 = i by omega] at k
    exact k
end Go.Proofs.YtdppnggchpchgaaDoor
/- The reference's Hex. Conditions: lengths. -/
namespace Go.Proofs.YtdppnggchpchgaaDoor
set_option linter.unusedVariables false
set_option linter.unusedSimpArgs false
open Go.RowKit
def hxS : ByteArray := ⟨#[48, 49, 50, 51, 52, 53, 54, 55, 56, 57, 97, 98, 99, 100, 101, 102]⟩
theorem hxS_at (i : Nat) (h : i < 16) (h2 : i < hxS.size) : (hxS[i]'h2).toNat = (hexU i).toNat := by
  have key : ∀ k : Fin 16, hxS.data[k.1]! = UInt8.ofBitVec (hexU k.1) := by decide +kernel
  have k1 := key ⟨i, h⟩
  have h3 : i < hxS.data.size := h2
  rw [getElem!_pos hxS.data i h3] at k1
  have k2 : hxS[i]'h2 = UInt8.ofBitVec (hexU i) := k1
  rw [k2]; rfl
theorem hx_ix (p pu : Nat) (h : p < 16) (e : pu = (hexU p).toNat) (h2 : p < hxS.size) : (((hxS[p]'h2).toNat : Nat) : Int) = (pu : Int) := by rw [hxS_at p h h2, e]
def ByV (bs : List (BitVec 8)) (v : Value) (W : World) : Prop := ∃ A c, v = .slice A bs.length c ∧ Rd b8 W W.heap.size A bs
theorem ByV.mono {bs : List (BitVec 8)} {v : Value} {a b : World} (h : ByV bs v a) (hb : Below a.heap.size a b) : ByV bs v b := by
  obtain ⟨A, c, e, h1⟩ := h
  exact ⟨A, c, e, (h1.below hb).more hb.size⟩
theorem rd2_new (w : World) (x y : BitVec 8) (p q : Nat) (hp : p = x.toNat) (hq : q = y.toNat) : Rd b8 (w.alloc (.cells #[.int .u8 p, .int .u8 q] 5)) (w.alloc (.cells #[.int .u8 p, .int .u8 q] 5)).heap.size (some ⟨w.heap.size, 0, none⟩) [x, y] := by
  have hb := Bk.new w 5 #[.int .u8 p, .int .u8 q]
  intro j hj
  have hl := hb.lt
  refine ⟨⟨w.heap.size, 0, none⟩, rfl, hl, ?_⟩
  have h2 : j = 0 ∨ j = 1 := by have h : j < 2 := hj; omega
  rcases h2 with rfl | rfl
  · rw [addr_at]
    refine (hb.cell 0).trans ?_
    subst hp
    rfl
  · rw [addr_at]
    refine (hb.cell 1).trans ?_
    subst hq
    rfl
theorem hex_and : ∀ x : Fin 256, bits .and .u8 (x.1 : Int) 15 = ((x.1 % 16 : Nat) : Int) := by decide +kernel
set_option maxHeartbeats 2000000
set_option maxRecDepth 100000
theorem hx6_r (Q : Exit → Act → World → Prop) (a0 : Act) (w : World) (ad : Addr) (N c k p q pu qu : Nat) (x a b : BitVec 8) (S T : List (BitVec 8)) (sl : Nat) (hb : Hid (∀ W, Below w.heap.size w W → W.cell? (ad.add k) = some (.int .u8 (U8 x)))) (h1 : (k : Int) < (N : Int)) (h2 : (0 : Int) ≤ (k : Int)) (hp : (U8 x) / 16 = (p : Int)) (hq : bits .and .u8 (U8 x) 15 = (q : Int)) (hp16 : (p : Int) < 16) (hq16 : (q : Int) < 16) (ha : pu = (hexU p).toNat) (hb2 : qu = (hexU q).toNat) (hap : pu = a.toNat) (hbq : qu = b.toNat) (hT : strB S ++ strB [a, b] = strB T) (hsl : (strB S).size = sl) (hsl2 : (sl : Int) ≤ 100000) (hsz : a0.tmps.size = 31) (sl0 : a0.tmps.getD 0 undef = .slice (some ad) N c) (sl3 : a0.tmps.getD 3 undef = .string ⟨#[48, 49, 50, 51, 52, 53, 54, 55, 56, 57, 97, 98, 99, 100, 101, 102]⟩) (sl4 : a0.tmps.getD 4 undef = .string (strB S)) (sl5 : a0.tmps.getD 5 undef = .int .i64 k)
    (fin : ∀ (vals : Nat → Value) (w1 : World), Below w.heap.size w w1 → (IsV (.string (strB T))) (vals 18) w1 → Q .normal (putD vals [12, 13, 14, 15, 16, 17, 18, 19, 20, 21, 22, 23, 24, 25, 26, 27, 28, 29, 4] 0 a0) w1) :
    (Code.region 6 (regIn Tryd.f34 6) true).wp Tryd.prog Q a0 w := by
  refine region_by (G := fun w w1 => Below w.heap.size w w1) [IsV (.string (strB S)),
    IsV (.string ⟨#[48, 49, 50, 51, 52, 53, 54, 55, 56, 57, 97, 98, 99, 100, 101, 102]⟩),
    IsV (.slice (some ad) N c),
    IsV (.int .i64 k),
    IsV (.pointer (some (ad.add k))),
    IsV (.int .u8 (U8 x)),
    IsV (.int .u8 p),
    IsV (.int .u8 pu),
    IsV (.string ⟨#[48, 49, 50, 51, 52, 53, 54, 55, 56, 57, 97, 98, 99, 100, 101, 102]⟩),
    IsV (.slice (some ad) N c),
    IsV (.int .i64 k),
    IsV (.pointer (some (ad.add k))),
    IsV (.int .u8 (U8 x)),
    IsV (.int .u8 q),
    IsV (.int .u8 qu),
    ByV [a, b],
    IsV (.string (strB [a, b])),
    IsV (.string (strB T)),
    IsV (.string (strB T))]
    [12, 13, 14, 15, 16, 17, 18, 19, 20, 21, 22, 23, 24, 25, 26, 27, 28, 29, 4] (by kernel_rfl) (Gw.drew _) Gw.trans (by rw [hsz]; kernel_rfl) (by kernel_rfl) ?_ ?_ ?_
  · intro f hf
    simp only [List.mem_cons, List.not_mem_nil, or_false] at hf
    rcases hf with rfl | rfl | rfl | rfl | rfl | rfl | rfl | rfl | rfl | rfl | rfl | rfl | rfl | rfl | rfl | rfl | rfl | rfl | rfl <;> intro v a b h g <;> first | exact IsV.mono h | exact ByV.mono h g
  · refine ⟨?_, ?_, ?_, ?_, ?_, ?_, ?_, ?_, ?_, ?_, ?_, ?_, ?_, ?_, ?_, ?_, ?_, ?_, ?_, trivial⟩
    · exact owes_mv 4 (by kernel_rfl) (by kernel_rfl) (by kernel_rfl) sl4 (fun _ => rfl)
    · exact owes_mv 3 (by kernel_rfl) (by kernel_rfl) (by kernel_rfl) sl3 (fun _ => rfl)
    · exact owes_mv 0 (by kernel_rfl) (by kernel_rfl) (by kernel_rfl) sl0 (fun _ => rfl)
    · exact owes_mv 5 (by kernel_rfl) (by kernel_rfl) (by kernel_rfl) sl5 (fun _ => rfl)
    · refine owes_v (Go.Op.indexAddr 45 (Go.Operand.tmp 14) (Go.Operand.tmp 15)) 0 [2, 3] (by kernel_rfl) (by kernel_rfl) (by kernel_rfl) rfl fun vals w1 ρ hG hF hρ hcst hfun => ?_
      have e14 : ρ (.tmp 14) = .slice (some ad) N c := ((hρ 14).trans (slotJ [2, 3] (by rw [hsz]; decide) (by kernel_rfl))).trans (hF 2 (by decide))
      have e15 : ρ (.tmp 15) = .int .i64 k := ((hρ 15).trans (slotJ [2, 3] (by rw [hsz]; decide) (by kernel_rfl))).trans (hF 3 (by decide))
      have g1 := h1; have g2 := h2
      clear hρ hF hcst hfun sl0 sl3 sl4 sl5 fin
      exact opv_val (by go_simp <;> rfl) ⟨gw_self _, rfl⟩
    · refine owes_v (Go.Op.load 5 (Go.Operand.tmp 16)) 5 [4] (by kernel_rfl) (by kernel_rfl) (by kernel_rfl) rfl fun vals w1 ρ hG hF hρ hcst hfun => ?_
      have e16 : ρ (.tmp 16) = .pointer (some (ad.add k)) := ((hρ 16).trans (slotJ [4] (by rw [hsz]; decide) (by kernel_rfl))).trans (hF 4 (by decide))
      have d0 := hb.out w1 hG
      clear hρ hF hcst hfun sl0 sl3 sl4 sl5 fin
      exact opv_val (by go_simp <;> rfl) ⟨gw_self _, rfl⟩
    · refine owes_v (Go.Op.binOp Go.BinOp.shr 5 (Go.Operand.tmp 17) (Go.Operand.const (Go.Value.int Go.IntKind.u64 4)) 84) 5 [5] (by kernel_rfl) (by kernel_rfl) (by kernel_rfl) rfl fun vals w1 ρ hG hF hρ hcst hfun => ?_
      have e17 : ρ (.tmp 17) = .int .u8 (U8 x) := ((hρ 17).trans (slotJ [5] (by rw [hsz]; decide) (by kernel_rfl))).trans (hF 5 (by decide))
      have g1 := hp
      clear hρ hF hfun sl0 sl3 sl4 sl5 fin
      exact opv_val (by go_simp <;> rfl) ⟨gw_self _, rfl⟩
    · refine owes_v (Go.Op.index 9 (Go.Operand.tmp 13) (Go.Operand.tmp 18)) 5 [1, 6] (by kernel_rfl) (by kernel_rfl) (by kernel_rfl) rfl fun vals w1 ρ hG hF hρ hcst hfun => ?_
      have e13 : ρ (.tmp 13) = .string ⟨#[48, 49, 50, 51, 52, 53, 54, 55, 56, 57, 97, 98, 99, 100, 101, 102]⟩ := ((hρ 13).trans (slotJ [1, 6] (by rw [hsz]; decide) (by kernel_rfl))).trans (hF 1 (by decide))
      have e18 : ρ (.tmp 18) = .int .u8 p := ((hρ 18).trans (slotJ [1, 6] (by rw [hsz]; decide) (by kernel_rfl))).trans (hF 6 (by decide))
      have g1 := hp16
      clear hρ hF hcst hfun sl0 sl3 sl4 sl5 fin
      exact opv_val (by go_simp <;> first | rfl | exact hx_ix _ _ (by omega) rfl _ | exact hx_ix _ _ (by omega) ha _) ⟨gw_self _, rfl⟩
    · exact owes_mv 3 (by kernel_rfl) (by kernel_rfl) (by kernel_rfl) sl3 (fun _ => rfl)
    · exact owes_mv 0 (by kernel_rfl) (by kernel_rfl) (by kernel_rfl) sl0 (fun _ => rfl)
    · exact owes_mv 5 (by kernel_rfl) (by kernel_rfl) (by kernel_rfl) sl5 (fun _ => rfl)
    · refine owes_v (Go.Op.indexAddr 45 (Go.Operand.tmp 21) (Go.Operand.tmp 22)) 0 [9, 10] (by kernel_rfl) (by kernel_rfl) (by kernel_rfl) rfl fun vals w1 ρ hG hF hρ hcst hfun => ?_
      have e21 : ρ (.tmp 21) = .slice (some ad) N c := ((hρ 21).trans (slotJ [9, 10] (by rw [hsz]; decide) (by kernel_rfl))).trans (hF 9 (by decide))
      have e22 : ρ (.tmp 22) = .int .i64 k := ((hρ 22).trans (slotJ [9, 10] (by rw [hsz]; decide) (by kernel_rfl))).trans (hF 10 (by decide))
      have g1 := h1; have g2 := h2
      clear hρ hF hcst hfun sl0 sl3 sl4 sl5 fin
      exact opv_val (by go_simp <;> rfl) ⟨gw_self _, rfl⟩
    · refine owes_v (Go.Op.load 5 (Go.Operand.tmp 23)) 5 [11] (by kernel_rfl) (by kernel_rfl) (by kernel_rfl) rfl fun vals w1 ρ hG hF hρ hcst hfun => ?_
      have e23 : ρ (.tmp 23) = .pointer (some (ad.add k)) := ((hρ 23).trans (slotJ [11] (by rw [hsz]; decide) (by kernel_rfl))).trans (hF 11 (by decide))
      have d0 := hb.out w1 hG
      clear hρ hF hcst hfun sl0 sl3 sl4 sl5 fin
      exact opv_val (by go_simp <;> rfl) ⟨gw_self _, rfl⟩
    · refine owes_v (Go.Op.binOp Go.BinOp.and 5 (Go.Operand.tmp 24) (Go.Operand.const (Go.Value.int Go.IntKind.u8 15)) 5) 5 [12] (by kernel_rfl) (by kernel_rfl) (by kernel_rfl) rfl fun vals w1 ρ hG hF hρ hcst hfun => ?_
      have e24 : ρ (.tmp 24) = .int .u8 (U8 x) := ((hρ 24).trans (slotJ [12] (by rw [hsz]; decide) (by kernel_rfl))).trans (hF 12 (by decide))
      have g1 := hq
      clear hρ hF hfun sl0 sl3 sl4 sl5 fin
      exact opv_val (by go_simp <;> rfl) ⟨gw_self _, rfl⟩
    · refine owes_v (Go.Op.index 9 (Go.Operand.tmp 20) (Go.Operand.tmp 25)) 5 [8, 13] (by kernel_rfl) (by kernel_rfl) (by kernel_rfl) rfl fun vals w1 ρ hG hF hρ hcst hfun => ?_
      have e20 : ρ (.tmp 20) = .string ⟨#[48, 49, 50, 51, 52, 53, 54, 55, 56, 57, 97, 98, 99, 100, 101, 102]⟩ := ((hρ 20).trans (slotJ [8, 13] (by rw [hsz]; decide) (by kernel_rfl))).trans (hF 8 (by decide))
      have e25 : ρ (.tmp 25) = .int .u8 q := ((hρ 25).trans (slotJ [8, 13] (by rw [hsz]; decide) (by kernel_rfl))).trans (hF 13 (by decide))
      have g1 := hq16
      clear hρ hF hcst hfun sl0 sl3 sl4 sl5 fin
      exact opv_val (by go_simp <;> first | rfl | exact hx_ix _ _ (by omega) rfl _ | exact hx_ix _ _ (by omega) hb2 _) ⟨gw_self _, rfl⟩
    · refine owes_v (Go.Op.buildSlice 45 2 #[(0, Go.Operand.tmp 19), (1, Go.Operand.tmp 26)]) 45 [7, 14] (by kernel_rfl) (by kernel_rfl) (by kernel_rfl) rfl fun vals w1 ρ hG hF hρ hcst hfun => ?_
      have e19 : ρ (.tmp 19) = .int .u8 pu := ((hρ 19).trans (slotJ [7, 14] (by rw [hsz]; decide) (by kernel_rfl))).trans (hF 7 (by decide))
      have e26 : ρ (.tmp 26) = .int .u8 qu := ((hρ 26).trans (slotJ [7, 14] (by rw [hsz]; decide) (by kernel_rfl))).trans (hF 14 (by decide))
      clear hρ hF hcst hfun sl0 sl3 sl4 sl5 fin
      exact opv_val (by go_simp <;> rfl) ⟨Gw.alloc _ _, ⟨_, _, rfl, rd2_new w1 a b pu qu hap hbq⟩⟩
    · refine owes_v (Go.Op.convert 45 9 (Go.Operand.tmp 27)) 9 [15] (by kernel_rfl) (by kernel_rfl) (by kernel_rfl) rfl fun vals w1 ρ hG hF hρ hcst hfun => ?_
      have f27 : (ByV [a, b]) (vals 15) w1 := hF 15 (by decide)
      have e27 : ρ (.tmp 27) = vals 15 := (hρ 27).trans (slotJ [15] (by rw [hsz]; decide) (by kernel_rfl))
      obtain ⟨A27, c27, h27, r27⟩ := f27
      rw [h27] at e27
      have hcv : (convert 45 9 (.slice A27 2 c27)).run Tryd.prog w1 = .ok (.string (strB [a, b])) w1 := str_conv [a, b] A27 c27 _ w1 r27
      clear hρ hF hcst hfun sl0 sl3 sl4 sl5 fin
      exact opv_val (by go_simp <;> rfl) ⟨gw_self _, rfl⟩
    · refine owes_v (Go.Op.binOp Go.BinOp.add 9 (Go.Operand.tmp 12) (Go.Operand.tmp 28) 9) 9 [0, 16] (by kernel_rfl) (by kernel_rfl) (by kernel_rfl) rfl fun vals w1 ρ hG hF hρ hcst hfun => ?_
      have e12 : ρ (.tmp 12) = .string (strB S) := ((hρ 12).trans (slotJ [0, 16] (by rw [hsz]; decide) (by kernel_rfl))).trans (hF 0 (by decide))
      have e28 : ρ (.tmp 28) = .string (strB [a, b]) := ((hρ 28).trans (slotJ [0, 16] (by rw [hsz]; decide) (by kernel_rfl))).trans (hF 16 (by decide))
      have k1 := hT; have k2 := hsl; have k3 := hsl2; have k4 : (strB [a, b]).size = 2 := rfl
      clear hρ hF hcst hfun sl0 sl3 sl4 sl5 fin
      exact opv_val (by go_simp <;> first | rfl | omega) ⟨gw_self _, rfl⟩
    · exact owes_mvj 17 29 (by kernel_rfl) (by kernel_rfl) (by kernel_rfl) (by kernel_rfl) (by rw [hsz]; decide) (fun v w h => h)
  · intro vals w1 hG hF
    exact fin vals w1 hG (hF 18 (by decide +kernel))
theorem hex_c (w : World) (A : Option Addr) (c : Nat) (bs : List (BitVec 8)) (hr : Rd b8 w w.heap.size A bs) (hl : bs.length ≤ 2000) : Calls Tryd.prog 34 #[.slice A bs.length c] w (RetP (.string (strB (hexB bs))) w) := by
  have HR := Lib.hid hr
  obtain ⟨N, hN⟩ : ∃ N, N = bs.length := ⟨_, rfl⟩
  have HN := Lib.hid hN
  have q0 : (N : Int) ≤ 2000 := by omega
  rw [← hN]
  clear hr hl hN
  go_enter Tryd.func34, Tryd.ntmps34
  go_wp2_with fail
  go_loopw [4, 5] (fun o i W => ∃ k : Nat, i = .int .i64 k ∧ k ≤ N ∧ o = .string (strB (hexB (bs.take k))) ∧ Hid (Below w.heap.size w W)) (fun _ i _ => N - (Go.RowKit.intOf i).toNat)
  case atStart => exact ⟨0, rfl, Nat.zero_le _, rfl, Lib.hid (Below.refl _ _)⟩
  case round =>
    obtain ⟨k, rfl, hk, rfl, hB⟩ := hrel
    by_cases hlt : k < N
    · have hkl : k < bs.length := by rw [← HN.out]; exact hlt
      obtain ⟨x, hx⟩ : ∃ x, x = bs[k] := ⟨_, rfl⟩
      obtain ⟨ad, rfl, hcell⟩ : ∃ ad, A = some ad ∧ wr.cell? (ad.add k) = some (.int .u8 (U8 x)) := by
        obtain ⟨ad, e, _, hc⟩ := (HR.out.below hB.out) k hkl
        exact ⟨ad, e, by rw [hx]; exact hc⟩
      have hnx : hexB (bs.take (k + 1)) = hexB (bs.take k) ++ [hexU (x.toNat / 16), hexU (x.toNat % 16)] := by
        rw [List.take_succ_eq_append_getElem hkl, hexB_snoc, ← hx]
      have hsl : (strB (hexB (bs.take k))).size = 2 * k := by
        rw [strB_len, hexB_len, List.length_take]; omega
      obtain ⟨S, hS⟩ : ∃ S, S = hexB (bs.take k) := ⟨_, rfl⟩
      obtain ⟨T, hT⟩ : ∃ T, T = hexB (bs.take (k + 1)) := ⟨_, rfl⟩
      rw [← hS, ← hT] at hnx
      rw [← hS] at hsl ⊢
      have HT := Lib.hid hT
      have hTT : strB S ++ strB [hexU (x.toNat / 16), hexU (x.toNat % 16)] = strB T := by rw [hnx, strB_app]
      have hlt8 : x.toNat < 256 := x.isLt
      have hp : (U8 x) / 16 = ((x.toNat / 16 : Nat) : Int) := by
        have e : U8 x = (x.toNat : Int) := rfl
        rw [e]; omega
      have hq : bits .and .u8 (U8 x) 15 = ((x.toNat % 16 : Nat) : Int) := hex_and ⟨x.toNat, hlt8⟩
      have hb' : Hid (∀ W, Below wr.heap.size wr W → W.cell? (ad.add k) = some (.int .u8 (U8 x))) := Lib.hid fun W b => (b.cell (cell_lt hcell)).trans hcell
      have p1 : (0 : Int) ≤ (k : Int) := by omega
      have p2 : (k : Int) < (N : Int) := by omega
      clear hnx hcell hx hS hT hkl
      go_wp2_with fail
      refine hx6_r _ _ _ ad N c k (x.toNat / 16) (x.toNat % 16) (hexU (x.toNat / 16)).toNat (hexU (x.toNat % 16)).toNat x (hexU (x.toNat / 16)) (hexU (x.toNat % 16)) S T (2 * k) hb' p2 p1 hp hq (by omega) (by omega) rfl rfl rfl rfl hTT hsl (by omega) rfl ?_ ?_ ?_ ?_ ?_
      · rfl
      · rfl
      · rfl
      · rfl
      intro vals w4 hG h4
      unfold IsV at h4
      simp only [putD, Act.put, List.setIfInBounds_toArray, List.set_cons_zero, List.set_cons_succ, h4]
      have HB4 := Lib.hid (hB.out.trans (hG.mono hB.out.size))
      clear hG h4 hTT hsl hlt8 hp hq hb'
      go_wp2_with fail
      go_roundw
      case rel => exact ⟨k + 1, by go_num, by omega, by rw [HT.out], HB4⟩
      case measure => simp [Go.RowKit.intOf]; omega
    · have hkN : bs.take k = bs := List.take_of_length_le (by rw [← HN.out]; omega)
      rw [hkN]
      go_wp2_with fail
      go_ret
      exact ⟨rfl, hB.out⟩
end Go.Proofs.YtdppnggchpchgaaDoor
/- The reference's Text. Conditions: few nodes; all pointers are some node's or 0. -/
namespace Go.Proofs.YtdppnggchpchgaaDoor
set_option linter.unusedVariables false
set_option linter.unusedSimpArgs false
open Go.RowKit Go.Maps
theorem rcan_k {W : World} {g : Gv} {v : Value} (hf : FewP g) (h0 : ckG g = 0) (h : OfV g v W) : Calls Tryd.prog 13 #[v] W fun e w2 => ∃ u, e = .returned u ∧ Below W.heap.size W w2 ∧ CnV (canM g) (canR g) u w2 :=
  can_k hf (ck_ok h0).1 (ck_ok h0).2 rfl rfl h
set_option maxHeartbeats 4000000
set_option maxRecDepth 100000
theorem rt6_r (Q : Exit → Act → World → Prop) (a0 : Act) (w : World) (cb k L c2 : Nat) (ad : Addr) (xs : ByteArray) (xt : Int) (S D S1 S2 S3 S4 : List (BitVec 8)) (ls lx ld l1 l2 l3 : Nat) (hb : Hid (∀ W, Below w.heap.size w W → W.cell? ⟨cb, 1, none⟩ = some (.slice (some ad) L c2) ∧ W.cell? (ad.add (k * 2)) = some (.string xs) ∧ W.cell? ⟨(ad.add (k * 2)).block, (ad.add (k * 2)).off + 1, none⟩ = some (.int .i64 xt))) (hD : Hid (∀ W, Calls Tryd.prog 33 #[.int .i64 xt] W (RetP (.string (strB D)) W))) (p1 : (0 : Int) ≤ (k : Int)) (p2 : (k : Int) < (L : Int)) (zs : (strB S).size = ls) (zx : xs.size = lx) (zd : (strB D).size = ld) (z1 : (strB S1).size = l1) (z2 : (strB S2).size = l2) (z3 : (strB S3).size = l3) (e1 : strB S ++ xs = strB S1) (e2 : strB S1 ++ ⟨#[32, 45, 62, 32]⟩ = strB S2) (e3 : strB S2 ++ strB D = strB S3) (e4 : strB S3 ++ ⟨#[10]⟩ = strB S4) (b0 : (ls : Int) ≤ 1000000) (bx : (lx : Int) ≤ 10000) (bd' : (ld : Int) ≤ 10000) (b1 : (l1 : Int) ≤ 1100000) (b2 : (l2 : Int) ≤ 1100000) (b3 : (l3 : Int) ≤ 1100000) (hsz : a0.tmps.size = 93) (sl3 : a0.tmps.getD 3 undef = .pointer (some ⟨cb, 0, none⟩)) (sl4 : a0.tmps.getD 4 undef = .string (strB S)) (sl5 : a0.tmps.getD 5 undef = .int .i64 k)
    (fin : ∀ (vals : Nat → Value) (w1 : World), Below w.heap.size w w1 → (IsV (.string (strB S4))) (vals 18) w1 → Q .normal (putD vals [17, 18, 19, 20, 21, 22, 23, 24, 25, 26, 27, 28, 29, 30, 31, 32, 33, 34, 4] 0 a0) w1) :
    (Code.region 6 (regIn Tryd.f15 6) true).wp Tryd.prog Q a0 w := by
  refine region_by (G := fun w w1 => Below w.heap.size w w1) [IsV (.string (strB S)),
    IsV (.pointer (some ⟨cb, 1, none⟩)),
    IsV (.slice (some ad) L c2),
    IsV (.int .i64 k),
    IsV (.pointer (some (ad.add (k * 2)))),
    IsV (.pointer (some (ad.add (k * 2)))),
    IsV (.string xs),
    IsV (.string (strB S1)),
    IsV (.string (strB S2)),
    IsV (.pointer (some ⟨cb, 1, none⟩)),
    IsV (.slice (some ad) L c2),
    IsV (.int .i64 k),
    IsV (.pointer (some (ad.add (k * 2)))),
    IsV (.pointer (some ⟨(ad.add (k * 2)).block, (ad.add (k * 2)).off + 1, none⟩)),
    IsV (.int .i64 xt),
    IsV (.string (strB D)),
    IsV (.string (strB S3)),
    IsV (.string (strB S4)),
    IsV (.string (strB S4))]
    [17, 18, 19, 20, 21, 22, 23, 24, 25, 26, 27, 28, 29, 30, 31, 32, 33, 34, 4] (by kernel_rfl) (Gw.drew _) Gw.trans (by rw [hsz]; kernel_rfl) (by kernel_rfl) ?_ ?_ ?_
  · intro f hf
    simp only [List.mem_cons, List.not_mem_nil, or_false] at hf
    rcases hf with rfl | rfl | rfl | rfl | rfl | rfl | rfl | rfl | rfl | rfl | rfl | rfl | rfl | rfl | rfl | rfl | rfl | rfl | rfl <;> intro v a b h g <;> first | exact IsV.mono h
  · refine ⟨?_, ?_, ?_, ?_, ?_, ?_, ?_, ?_, ?_, ?_, ?_, ?_, ?_, ?_, ?_, ?_, ?_, ?_, ?_, trivial⟩
    · exact owes_mv 4 (by kernel_rfl) (by kernel_rfl) (by kernel_rfl) sl4 (fun _ => rfl)
    · refine owes_v (Go.Op.fieldAddr 32 (Go.Operand.tmp 3) 1) 0 [] (by kernel_rfl) (by kernel_rfl) (by kernel_rfl) rfl fun vals w1 ρ hG hF hρ hcst hfun => ?_
      have e3 : ρ (.tmp 3) = .pointer (some ⟨cb, 0, none⟩) := ((hρ 3).trans (slotO [] (by kernel_rfl))).trans sl3
      clear hρ hF hcst hfun sl3 sl4 sl5 fin
      exact opv_val (by go_simp <;> rfl) ⟨gw_self _, rfl⟩
    · refine owes_v (Go.Op.load 30 (Go.Operand.tmp 18)) 30 [1] (by kernel_rfl) (by kernel_rfl) (by kernel_rfl) rfl fun vals w1 ρ hG hF hρ hcst hfun => ?_
      have e18 : ρ (.tmp 18) = .pointer (some ⟨cb, 1, none⟩) := ((hρ 18).trans (slotJ [1] (by rw [hsz]; decide) (by kernel_rfl))).trans (hF 1 (by decide))
      obtain ⟨d0, _, _⟩ := hb.out w1 hG
      clear hρ hF hcst hfun sl3 sl4 sl5 fin
      exact opv_val (by go_simp <;> rfl) ⟨gw_self _, rfl⟩
    · exact owes_mv 5 (by kernel_rfl) (by kernel_rfl) (by kernel_rfl) sl5 (fun _ => rfl)
    · refine owes_v (Go.Op.indexAddr 30 (Go.Operand.tmp 19) (Go.Operand.tmp 20)) 0 [2, 3] (by kernel_rfl) (by kernel_rfl) (by kernel_rfl) rfl fun vals w1 ρ hG hF hρ hcst hfun => ?_
      have e19 : ρ (.tmp 19) = .slice (some ad) L c2 := ((hρ 19).trans (slotJ [2, 3] (by rw [hsz]; decide) (by kernel_rfl))).trans (hF 2 (by decide))
      have e20 : ρ (.tmp 20) = .int .i64 k := ((hρ 20).trans (slotJ [2, 3] (by rw [hsz]; decide) (by kernel_rfl))).trans (hF 3 (by decide))
      have g1 := p1; have g2 := p2
      clear hρ hF hcst hfun sl3 sl4 sl5 fin
      exact opv_val (by go_simp <;> rfl) ⟨gw_self _, rfl⟩
    · refine owes_v (Go.Op.fieldAddr 56 (Go.Operand.tmp 21) 0) 0 [4] (by kernel_rfl) (by kernel_rfl) (by kernel_rfl) rfl fun vals w1 ρ hG hF hρ hcst hfun => ?_
      have e21 : ρ (.tmp 21) = .pointer (some (ad.add (k * 2))) := ((hρ 21).trans (slotJ [4] (by rw [hsz]; decide) (by kernel_rfl))).trans (hF 4 (by decide))
      clear hρ hF hcst hfun sl3 sl4 sl5 fin
      exact opv_val (by go_simp <;> rfl) ⟨gw_self _, rfl⟩
    · refine owes_v (Go.Op.load 9 (Go.Operand.tmp 22)) 9 [5] (by kernel_rfl) (by kernel_rfl) (by kernel_rfl) rfl fun vals w1 ρ hG hF hρ hcst hfun => ?_
      have e22 : ρ (.tmp 22) = .pointer (some (ad.add (k * 2))) := ((hρ 22).trans (slotJ [5] (by rw [hsz]; decide) (by kernel_rfl))).trans (hF 5 (by decide))
      obtain ⟨_, d0, _⟩ := hb.out w1 hG
      clear hρ hF hcst hfun sl3 sl4 sl5 fin
      exact opv_val (by go_simp <;> rfl) ⟨gw_self _, rfl⟩
    · refine owes_v (Go.Op.binOp Go.BinOp.add 9 (Go.Operand.tmp 17) (Go.Operand.tmp 23) 9) 9 [0, 6] (by kernel_rfl) (by kernel_rfl) (by kernel_rfl) rfl fun vals w1 ρ hG hF hρ hcst hfun => ?_
      have e17 : ρ (.tmp 17) = .string (strB S) := ((hρ 17).trans (slotJ [0, 6] (by rw [hsz]; decide) (by kernel_rfl))).trans (hF 0 (by decide))
      have e23 : ρ (.tmp 23) = .string xs := ((hρ 23).trans (slotJ [0, 6] (by rw [hsz]; decide) (by kernel_rfl))).trans (hF 6 (by decide))
      have k1 := e1; have k2 := zs; have k3 := b0; have k4 := zx; have k5 := bx
      clear hρ hF hcst hfun sl3 sl4 sl5 fin
      exact opv_val (by go_simp <;> first | rfl | omega) ⟨gw_self _, rfl⟩
    · refine owes_v (Go.Op.binOp Go.BinOp.add 9 (Go.Operand.tmp 24) (Go.Operand.const (Go.Value.string { data := #[32, 45, 62, 32] })) 9) 9 [7] (by kernel_rfl) (by kernel_rfl) (by kernel_rfl) rfl fun vals w1 ρ hG hF hρ hcst hfun => ?_
      have e24 : ρ (.tmp 24) = .string (strB S1) := ((hρ 24).trans (slotJ [7] (by rw [hsz]; decide) (by kernel_rfl))).trans (hF 7 (by decide))
      have k1 := e2; have k2 := z1; have k3 := b1
      clear hρ hF hfun sl3 sl4 sl5 fin
      exact opv_val (by go_simp <;> first | rfl | omega) ⟨gw_self _, rfl⟩
    · refine owes_v (Go.Op.fieldAddr 32 (Go.Operand.tmp 3) 1) 0 [] (by kernel_rfl) (by kernel_rfl) (by kernel_rfl) rfl fun vals w1 ρ hG hF hρ hcst hfun => ?_
      have e3 : ρ (.tmp 3) = .pointer (some ⟨cb, 0, none⟩) := ((hρ 3).trans (slotO [] (by kernel_rfl))).trans sl3
      clear hρ hF hcst hfun sl3 sl4 sl5 fin
      exact opv_val (by go_simp <;> rfl) ⟨gw_self _, rfl⟩
    · refine owes_v (Go.Op.load 30 (Go.Operand.tmp 26)) 30 [9] (by kernel_rfl) (by kernel_rfl) (by kernel_rfl) rfl fun vals w1 ρ hG hF hρ hcst hfun => ?_
      have e26 : ρ (.tmp 26) = .pointer (some ⟨cb, 1, none⟩) := ((hρ 26).trans (slotJ [9] (by rw [hsz]; decide) (by kernel_rfl))).trans (hF 9 (by decide))
      obtain ⟨d0, _, _⟩ := hb.out w1 hG
      clear hρ hF hcst hfun sl3 sl4 sl5 fin
      exact opv_val (by go_simp <;> rfl) ⟨gw_self _, rfl⟩
    · exact owes_mv 5 (by kernel_rfl) (by kernel_rfl) (by kernel_rfl) sl5 (fun _ => rfl)
    · refine owes_v (Go.Op.indexAddr 30 (Go.Operand.tmp 27) (Go.Operand.tmp 28)) 0 [10, 11] (by kernel_rfl) (by kernel_rfl) (by kernel_rfl) rfl fun vals w1 ρ hG hF hρ hcst hfun => ?_
      have e27 : ρ (.tmp 27) = .slice (some ad) L c2 := ((hρ 27).trans (slotJ [10, 11] (by rw [hsz]; decide) (by kernel_rfl))).trans (hF 10 (by decide))
      have e28 : ρ (.tmp 28) = .int .i64 k := ((hρ 28).trans (slotJ [10, 11] (by rw [hsz]; decide) (by kernel_rfl))).trans (hF 11 (by decide))
      have g1 := p1; have g2 := p2
      clear hρ hF hcst hfun sl3 sl4 sl5 fin
      exact opv_val (by go_simp <;> rfl) ⟨gw_self _, rfl⟩
    · refine owes_v (Go.Op.fieldAddr 56 (Go.Operand.tmp 29) 1) 0 [12] (by kernel_rfl) (by kernel_rfl) (by kernel_rfl) rfl fun vals w1 ρ hG hF hρ hcst hfun => ?_
      have e29 : ρ (.tmp 29) = .pointer (some (ad.add (k * 2))) := ((hρ 29).trans (slotJ [12] (by rw [hsz]; decide) (by kernel_rfl))).trans (hF 12 (by decide))
      clear hρ hF hcst hfun sl3 sl4 sl5 fin
      exact opv_val (by go_simp <;> rfl) ⟨gw_self _, rfl⟩
    · refine owes_v (Go.Op.load 3 (Go.Operand.tmp 30)) 3 [13] (by kernel_rfl) (by kernel_rfl) (by kernel_rfl) rfl fun vals w1 ρ hG hF hρ hcst hfun => ?_
      have e30 : ρ (.tmp 30) = .pointer (some ⟨(ad.add (k * 2)).block, (ad.add (k * 2)).off + 1, none⟩) := ((hρ 30).trans (slotJ [13] (by rw [hsz]; decide) (by kernel_rfl))).trans (hF 13 (by decide))
      obtain ⟨_, _, d0⟩ := hb.out w1 hG
      clear hρ hF hcst hfun sl3 sl4 sl5 fin
      exact opv_val (by go_simp <;> rfl) ⟨gw_self _, rfl⟩
    · refine owes_v (Go.Op.call { callee := Go.Callee.value (Go.Operand.func 33), args := #[Go.Operand.tmp 31], argTypes := #[3] }) 9 [14] (by kernel_rfl) (by kernel_rfl) (by kernel_rfl) rfl fun vals w1 ρ hG hF hρ hcst hfun => ?_
      have e31 : ρ (.tmp 31) = .int .i64 xt := ((hρ 31).trans (slotJ [14] (by rw [hsz]; decide) (by kernel_rfl))).trans (hF 14 (by decide))
      clear hρ hF hcst sl3 sl4 sl5 fin
      exact opv_enter (by go_simp <;> rfl) (of_ret (hD.out w1))
    · refine owes_v (Go.Op.binOp Go.BinOp.add 9 (Go.Operand.tmp 25) (Go.Operand.tmp 32) 9) 9 [8, 15] (by kernel_rfl) (by kernel_rfl) (by kernel_rfl) rfl fun vals w1 ρ hG hF hρ hcst hfun => ?_
      have e25 : ρ (.tmp 25) = .string (strB S2) := ((hρ 25).trans (slotJ [8, 15] (by rw [hsz]; decide) (by kernel_rfl))).trans (hF 8 (by decide))
      have e32 : ρ (.tmp 32) = .string (strB D) := ((hρ 32).trans (slotJ [8, 15] (by rw [hsz]; decide) (by kernel_rfl))).trans (hF 15 (by decide))
      have k1 := e3; have k2 := z2; have k3 := b2; have k4 := zd; have k5 := bd'
      clear hρ hF hcst hfun sl3 sl4 sl5 fin
      exact opv_val (by go_simp <;> first | rfl | omega) ⟨gw_self _, rfl⟩
    · refine owes_v (Go.Op.binOp Go.BinOp.add 9 (Go.Operand.tmp 33) (Go.Operand.const (Go.Value.string { data := #[10] })) 9) 9 [16] (by kernel_rfl) (by kernel_rfl) (by kernel_rfl) rfl fun vals w1 ρ hG hF hρ hcst hfun => ?_
      have e33 : ρ (.tmp 33) = .string (strB S3) := ((hρ 33).trans (slotJ [16] (by rw [hsz]; decide) (by kernel_rfl))).trans (hF 16 (by decide))
      have k1 := e4; have k2 := z3; have k3 := b3
      clear hρ hF hfun sl3 sl4 sl5 fin
      exact opv_val (by go_simp <;> first | rfl | omega) ⟨gw_self _, rfl⟩
    · exact owes_mvj 17 34 (by kernel_rfl) (by kernel_rfl) (by kernel_rfl) (by kernel_rfl) (by rw [hsz]; decide) (fun v w h => h)
  · intro vals w1 hG hF
    exact fin vals w1 hG (hF 18 (by decide +kernel))
theorem rtext_c (w : World) (g : Gv) (v : Value) (hf : FewP g) (h0 : ckG g = 0) (hv : OfV g v w) (hat : ∃ g' : Gv, v = g'.v) :
    Calls Tryd.prog 15 #[v] w (RetP (.string (strB (textL (canR g) (canM g)))) w) := by
  have HCn := Lib.hid (fun W (b : Below w.heap.size w W) => rcan_k hf h0 (hv.mono b))
  have HTx := Lib.hid (fun (c : Gv) h1 h2 => text_ok hf c h1 h2)
  obtain ⟨PT, hPT⟩ : ∃ P, P = textL (canR g) (canM g) := ⟨_, rfl⟩
  rw [← hPT]
  obtain ⟨g', hg'⟩ := hat
  obtain ⟨A, N, a1, A2, M, a2, ea⟩ : ∃ A N a1 A2 M a2, v = .agg #[.slice A N a1, .slice A2 M a2] := ⟨_, _, _, _, _, _, hg'⟩
  subst ea
  clear hv hg' hf h0
  go_enter Tryd.func15, Tryd.ntmps15
  go_wp2_with fail
  obtain ⟨W0, hW0⟩ : ∃ W, W = w.alloc (.cells #[.slice A N a1, .slice A2 M a2] 32) := ⟨_, rfl⟩
  have hb0 : Below w.heap.size w W0 := by rw [hW0]; exact Gw.alloc w _
  rw [← hW0]
  have HB0 := Lib.hid hb0
  clear hb0 hW0
  refine Calls.mono (HCn.out W0 HB0.out) ?_
  rintro r w2 ⟨u, rfl, b2, c, rfl, hc, hcm, hcr⟩
  have hto := HTx.out c hcm hcr
  rw [← hcm, ← hcr] at hPT
  have HB2 := Lib.hid (HB0.out.trans (b2.mono HB0.out.size))
  obtain ⟨CA, ca, C2, ca2, ns, rs⟩ := c
  have HTo := Lib.hid hto
  have HC := Lib.hid hc
  obtain ⟨K, hK⟩ : ∃ K, K = ns.length := ⟨_, rfl⟩
  obtain ⟨L, hL⟩ : ∃ L, L = rs.length := ⟨_, rfl⟩
  have HN := Lib.hid (And.intro hK hL)
  have q0 : (K : Int) ≤ 90 := by have : ns.length ≤ 90 := hto.nl; omega
  have q1 : (L : Int) ≤ 100 := by have : rs.length ≤ 100 := hto.rl; omega
  unfold Gv.v Gv.vn Gv.vr
  simp only
  rw [← hK, ← hL]
  obtain ⟨MS, hMS⟩ : ∃ MS, MS = ns.map Nv.m := ⟨_, rfl⟩
  have HMS := Lib.hid hMS
  have HPT := Lib.hid (show PT = textL rs MS from by rw [hPT, hMS])
  clear b2 hc hcm hcr hto hK hL hMS hPT
  go_wp2_with fail
  obtain ⟨cb, hcb⟩ : ∃ s, s = w2.heap.size := ⟨_, rfl⟩
  obtain ⟨wc, hwc⟩ : ∃ W, W = w2.alloc (.cells #[.slice CA K ca, .slice C2 L ca2] 32) := ⟨_, rfl⟩
  rw [← hcb, ← hwc]
  have k1 : Bk wc cb 32 #[.slice CA K ca, .slice C2 L ca2] := by rw [hwc, hcb]; exact Bk.new w2 _ _
  have d1 : Below w2.heap.size w2 wc := by rw [hwc]; exact Gw.alloc w2 _
  have HX := Lib.hid (show ∀ W, Below wc.heap.size wc W → Bk W cb 32 #[.slice CA K ca, .slice C2 L ca2] ∧ Gv.At W W.heap.size ⟨CA, ca, C2, ca2, ns, rs⟩ ∧ Below w.heap.size w W from fun W b =>
    ⟨k1.below b k1.lt, HC.out.up (d1.trans (b.mono d1.size)), HB2.out.trans ((d1.trans (b.mono d1.size)).mono HB2.out.size)⟩)
  clear hcb hwc k1 d1 HC
  go_loopw [4, 5] (fun o i W => ∃ k : Nat, i = .int .i64 k ∧ k ≤ L ∧ o = .string (strB (rootsT (rs.take k))) ∧ Hid (Below wc.heap.size wc W)) (fun _ i _ => L - (Go.RowKit.intOf i).toNat)
  case atStart => exact ⟨0, rfl, Nat.zero_le _, rfl, Lib.hid (Below.refl _ _)⟩
  case round =>
    obtain ⟨k, rfl, hk, rfl, hB⟩ := hrel
    obtain ⟨c0, c1⟩ := (HX.out wr hB.out).1.two
    have cbl := (HX.out wr hB.out).1.lt
    by_cases hlt : k < L
    · have hkl : k < rs.length := by rw [← HN.out.2]; exact hlt
      obtain ⟨x, hx⟩ : ∃ x, x = rs[k] := ⟨_, rfl⟩
      obtain ⟨ad, rfl, hc2, hc3⟩ : ∃ ad, C2 = some ad ∧ wr.cell? (ad.add (k * 2)) = some (.string x.s) ∧ wr.cell? ⟨(ad.add (k * 2)).block, (ad.add (k * 2)).off + 1, none⟩ = some (.int .i64 x.t) := by
        obtain ⟨ad, e, _, h1, h2⟩ := ((HX.out wr hB.out).2.1.r) k hkl
        exact ⟨ad, e, by rw [hx]; exact h1, by rw [hx]; exact h2⟩
      obtain ⟨r1, r2, r3⟩ := HTo.out.root x (by rw [hx]; exact List.getElem_mem _)
      have hnx : rootsT (rs.take (k + 1)) = rootsT (rs.take k) ++ rootT x := by
        rw [List.take_succ_eq_append_getElem hkl, rootsT_snoc, ← hx]
      have hl : (rootsT (rs.take k)).length ≤ 200000 := by
        have h1 := rootsT_len (rs.take k) (fun r hr => (HTo.out.root r (List.mem_of_mem_take hr)).1)
        rw [List.length_take] at h1
        omega
      obtain ⟨xs, xt⟩ := x
      simp only at r1 r2 r3 hc2 hc3
      have hrt : rootT ⟨xs, xt⟩ = sB xs ++ [32#8, 45#8, 62#8, 32#8] ++ decL xt.toNat ++ [10#8] := rfl
      obtain ⟨D, hD⟩ : ∃ D, D = decL xt.toNat := ⟨_, rfl⟩
      have HD := Lib.hid (fun W => show Calls Tryd.prog 33 #[.int .i64 xt] W (RetP (.string (strB D)) W) from by rw [hD]; exact dec_c xt r2 r3 W)
      have hDl : D.length ≤ 2 := by rw [hD]; exact decL_len _
      rw [← hD] at hrt
      obtain ⟨S, hS⟩ : ∃ S, S = rootsT (rs.take k) := ⟨_, rfl⟩
      rw [← hS] at hnx hl ⊢
      obtain ⟨S1, hS1⟩ : ∃ X, X = S ++ sB xs := ⟨_, rfl⟩
      obtain ⟨S2, hS2⟩ : ∃ X, X = S1 ++ [32#8, 45#8, 62#8, 32#8] := ⟨_, rfl⟩
      obtain ⟨S3, hS3⟩ : ∃ X, X = S2 ++ D := ⟨_, rfl⟩
      obtain ⟨S4, hS4⟩ : ∃ X, X = S3 ++ [10#8] := ⟨_, rfl⟩
      have l1 : S1.length ≤ 201000 := by rw [hS1, List.length_append, sB_len]; omega
      have l2 : S2.length ≤ 201004 := by rw [hS2, List.length_append]; simp; omega
      have l3 : S3.length ≤ 201006 := by rw [hS3, List.length_append]; omega
      have e1 : strB S ++ xs = strB S1 := by rw [hS1]; exact app_sd S xs
      have e2 : strB S1 ++ ⟨#[32, 45, 62, 32]⟩ = strB S2 := by rw [hS2]; exact app_sd S1 ⟨#[32, 45, 62, 32]⟩
      have e3 : strB S2 ++ strB D = strB S3 := by rw [hS3]; exact strB_app S2 D
      have e4 : strB S3 ++ ⟨#[10]⟩ = strB S4 := by rw [hS4]; exact app_sd S3 ⟨#[10]⟩
      have hnx4 : rootsT (rs.take (k + 1)) = S4 := by rw [hnx, hrt, hS4, hS3, hS2, hS1]; simp only [List.append_assoc]
      have HNx := Lib.hid hnx4
      have hb' : Hid (∀ W, Below wr.heap.size wr W → W.cell? ⟨cb, 1, none⟩ = some (.slice (some ad) L ca2) ∧ W.cell? (ad.add (k * 2)) = some (.string xs) ∧ W.cell? ⟨(ad.add (k * 2)).block, (ad.add (k * 2)).off + 1, none⟩ = some (.int .i64 xt)) := Lib.hid fun W b => ⟨(b.cell (cell_lt c1)).trans c1, (b.cell (cell_lt hc2)).trans hc2, (b.cell (cell_lt hc3)).trans hc3⟩
      have HE := Lib.hid (And.intro e1 (And.intro e2 (And.intro e3 (And.intro e4 (And.intro l1 (And.intro l2 (And.intro l3 (And.intro hDl (And.intro r1 hl)))))))))
      have p1 : (0 : Int) ≤ (k : Int) := by omega
      have p2 : (k : Int) < (L : Int) := by omega
      clear hx r1 r2 r3 hnx hl hrt hD hDl hS hS1 hS2 hS3 hS4 l1 l2 l3 e1 e2 e3 e4 hnx4 hkl hc2 hc3
      go_wp2_with fail
      obtain ⟨g1, g2, g3, g4, g5, g6, g7, g8, g9, g10⟩ := HE.out
      refine rt6_r _ _ _ cb k L ca2 ad xs xt S D S1 S2 S3 S4 S.length xs.size D.length S1.length S2.length S3.length hb' HD p1 p2 (strB_len _) rfl (strB_len _) (strB_len _) (strB_len _) (strB_len _) g1 g2 g3 g4 (by omega) (by omega) (by omega) (by omega) (by omega) (by omega) rfl ?_ ?_ ?_ ?_
      · rfl
      · rfl
      · rfl
      intro vals w4 hG h4
      unfold IsV at h4
      simp only [putD, Act.put, List.setIfInBounds_toArray, List.set_cons_zero, List.set_cons_succ, h4]
      have HB4 := Lib.hid (hB.out.trans (hG.mono hB.out.size))
      clear hG h4 hb' g1 g2 g3 g4 g5 g6 g7 g8 g9 g10 c0 c1 cbl
      go_wp2_with fail
      go_roundw
      case rel => exact ⟨k + 1, by go_num, by omega, by rw [HNx.out], HB4⟩
      case measure => simp [Go.RowKit.intOf]; omega
    · have hkN : rs.take k = rs := List.take_of_length_le (by rw [← HN.out.2]; omega)
      have HRl := Lib.hid (show (rootsT rs).length ≤ 200000 from by
        have h1 := rootsT_len rs (fun r hr => (HTo.out.root r hr).1)
        have := HN.out.2
        omega)
      rw [hkN]
      obtain ⟨RT, hRT⟩ : ∃ X, X = rootsT rs := ⟨_, rfl⟩
      rw [← hRT] at HRl ⊢
      have HRT := Lib.hid hRT
      clear hkN hRT
      go_wp2_with fail
      go_loopw [4, 6] (fun o i W => ∃ k : Nat, i = .int .i64 k ∧ k ≤ K ∧ o = .string (strB (RT ++ nodesT (MS.take k) 0)) ∧ Hid (Below wc.heap.size wc W)) (fun _ i _ => K - (Go.RowKit.intOf i).toNat)
      case atStart => exact ⟨0, rfl, Nat.zero_le _, by rw [List.take_zero]; show _ = Value.string (strB (RT ++ [])); rw [List.append_nil], hB⟩
      case round =>
        clear c0 c1 cbl hlt hk hB
        obtain ⟨k, rfl, hk, rfl, hB⟩ := hrel
        obtain ⟨c0, c1⟩ := (HX.out wr hB.out).1.two
        have cbl := (HX.out wr hB.out).1.lt
        by_cases hlt : k < K
        · have hkl : k < ns.length := by rw [← HN.out.1]; exact hlt
          obtain ⟨x, hx⟩ : ∃ x, x = ns[k] := ⟨_, rfl⟩
          obtain ⟨ad, rfl, _⟩ : ∃ ad, CA = some ad ∧ True := by
            obtain ⟨ad, e, _⟩ := ((HX.out wr hB.out).2.1.n) k hkl
            exact ⟨ad, e, trivial⟩
          have HNd := Lib.hid (show ∀ W, Below wc.heap.size wc W → W.cell? (ad.add (k * 2)) = some x.vp ∧ W.cell? ⟨(ad.add (k * 2)).block, (ad.add (k * 2)).off + 1, none⟩ = some x.vd ∧ x.At W W.heap.size from fun W b => by
            obtain ⟨ad', e, _, h1, h2, h3⟩ := ((HX.out W b).2.1.n) k hkl
            injection e with e
            subst e
            rw [hx]
            exact ⟨h1, h2, h3⟩)
          obtain ⟨r1, r2, r3⟩ := HTo.out.each x (by rw [hx]; exact List.getElem_mem _)
          have hkm : k < MS.length := by rw [HMS.out, List.length_map]; exact hkl
          have hxm : MS[k] = x.m := by simp only [HMS.out, List.getElem_map, hx]
          have hlen : (MS.take k).length = k := by rw [List.length_take]; omega
          have hnx : nodesT (MS.take (k + 1)) 0 = nodesT (MS.take k) 0 ++ nodeT k x.m := by
            rw [List.take_succ_eq_append_getElem hkm, nodesT_snoc, hxm, hlen, Nat.zero_add]
          have hl : (nodesT (MS.take k) 0).length ≤ 800000 := by
            have h1 := nodesT_len (MS.take k) 0 (fun m hm => by
              have h2 := List.mem_of_mem_take hm
              rw [HMS.out] at h2
              obtain ⟨y, hy, rfl⟩ := List.mem_map.1 h2
              have := HTo.out.each y hy
              exact ⟨this.1, this.2.1⟩)
            omega
          obtain ⟨pA, pc, dA, dc, ps, bs⟩ := x
          have hnt : nodeT k (⟨pA, pc, dA, dc, ps, bs⟩ : Nv).m = decL (k + 1) ++ [58#8] ++ (ptrT ps ++ xT bs ++ hexB bs) ++ [10#8] := rfl
          simp only at r1 r2 r3
          obtain ⟨pn, hpn⟩ : ∃ n, n = ps.length := ⟨_, rfl⟩
          obtain ⟨dn, hdn⟩ : ∃ n, n = bs.length := ⟨_, rfl⟩
          have HNd2 := Lib.hid (show ∀ W, Below wc.heap.size wc W → W.cell? (ad.add (k * 2)) = some (.slice pA pn pc) ∧ W.cell? ⟨(ad.add (k * 2)).block, (ad.add (k * 2)).off + 1, none⟩ = some (.slice dA dn dc) ∧ Rd iV W W.heap.size pA ps ∧ Rd b8 W W.heap.size dA bs from fun W b => by
            obtain ⟨h1, h2, h3⟩ := HNd.out W b
            rw [hpn, hdn]
            exact ⟨h1, h2, h3.p, h3.b⟩)
          obtain ⟨S, hS⟩ : ∃ X, X = RT ++ nodesT (MS.take k) 0 := ⟨_, rfl⟩
          have hSl : S.length ≤ 1000000 := by rw [hS, List.length_append]; have := HRl.out; omega
          rw [← hS]
          obtain ⟨D, hD⟩ : ∃ D, D = decL (k + 1) := ⟨_, rfl⟩
          have HD := Lib.hid (fun W => show Calls Tryd.prog 33 #[.int .i64 ((k : Int) + 1)] W (RetP (.string (strB D)) W) from by
            have h := dec_c ((k : Int) + 1) (by omega) (by omega) W
            rw [hD]
            rw [show ((k : Int) + 1).toNat = k + 1 by omega] at h
            exact h)
          have hDl : D.length ≤ 2 := by rw [hD]; exact decL_len _
          obtain ⟨S1, hS1⟩ : ∃ X, X = S ++ D := ⟨_, rfl⟩
          obtain ⟨S2, hS2⟩ : ∃ X, X = S1 ++ [58#8] := ⟨_, rfl⟩
          have l1 : S1.length ≤ 1000002 := by rw [hS1, List.length_append]; omega
          have l2 : S2.length ≤ 1000003 := by rw [hS2, List.length_append]; simp; omega
          have HFin := Lib.hid (show RT ++ nodesT (MS.take (k + 1)) 0 = S2 ++ ptrT ps ++ xT bs ++ hexB bs ++ [10#8] from by
            rw [hnx, hnt, hS2, hS1, hS, hD]; simp only [List.append_assoc])
          have HL := Lib.hid (And.intro l2 (And.intro r1 (And.intro r2 (And.intro r3 (And.intro hpn hdn)))))
          obtain ⟨ls, hls⟩ : ∃ n, n = S.length := ⟨_, rfl⟩
          obtain ⟨ld, hld⟩ : ∃ n, n = D.length := ⟨_, rfl⟩
          obtain ⟨ls1, hls1⟩ : ∃ n, n = S1.length := ⟨_, rfl⟩
          have zs : (strB S).size = ls := by rw [strB_len, hls]
          have zd : (strB D).size = ld := by rw [strB_len, hld]
          have z1 : (strB S1).size = ls1 := by rw [strB_len, hls1]
          have y1 : (ls : Int) ≤ 1000000 := by omega
          have y2 : (ld : Int) ≤ 2 := by omega
          have y3 : (ls1 : Int) ≤ 1000002 := by omega
          have e1 : strB S ++ strB D = strB S1 := by rw [hS1]; exact strB_app S D
          have e2 : strB S1 ++ ⟨#[58]⟩ = strB S2 := by rw [hS2]; exact app_sd S1 ⟨#[58]⟩
          have p1 : (0 : Int) ≤ (k : Int) := by omega
          have p2 : (k : Int) < (K : Int) := by omega
          have p3 : (pn : Int) ≤ 1000 := by omega
          have p4 : (dn : Int) ≤ 2000 := by omega
          clear hx r1 r2 r3 hkm hxm hlen hnx hl hnt hS hD hDl hS1 hS2 l1 l2 hkl hSl hpn hdn hls hld hls1 HNd
          go_wp2_with fail
          refine Calls.mono (HD.out _) ?_
          rintro r w3 ⟨rfl, b3⟩
          have HB3 := Lib.hid (hB.out.trans (b3.mono hB.out.size))
          clear b3 c0 c1 cbl hB
          go_wp2_with fail
          clear zs zd z1 y1 y2 y3 e1 e2
          go_loopw [4, 7] (fun o i W => ∃ j : Nat, i = .int .i64 j ∧ j ≤ pn ∧ o = .string (strB (S2 ++ ptrT (ps.take j))) ∧ Hid (Below wc.heap.size wc W)) (fun _ i _ => pn - (Go.RowKit.intOf i).toNat)
          case atStart => exact ⟨0, rfl, Nat.zero_le _, by rw [List.take_zero]; show _ = Value.string (strB (S2 ++ [])); rw [List.append_nil], HB3⟩
          case round =>
            clear HB3
            obtain ⟨j, rfl, hj, rfl, hB⟩ := hrel
            obtain ⟨c0, c1⟩ := (HX.out wr hB.out).1.two
            have cbl := (HX.out wr hB.out).1.lt
            obtain ⟨n0, n1, n2, n3⟩ := HNd2.out wr hB.out
            have HR2 := Lib.hid (And.intro n2 n3)
            have hcl := cell_lt n0
            clear n2 n3
            by_cases hlj : j < pn
            · have hjl : j < ps.length := by have := HL.out; omega
              obtain ⟨p, hp⟩ : ∃ p, p = ps[j] := ⟨_, rfl⟩
              obtain ⟨pd, rfl, hcell⟩ : ∃ ad, pA = some ad ∧ wr.cell? (ad.add j) = some (.int .i64 p) := by
                obtain ⟨ad, e, _, hc⟩ := HR2.out.1 j hjl
                exact ⟨ad, e, by rw [hp]; exact hc⟩
              have hpp := HL.out.2.2.2.1 p (by rw [hp]; exact List.getElem_mem _)
              have HI := Lib.hid (fun W => dec_c p hpp.1 hpp.2 W)
              obtain ⟨E, hE⟩ : ∃ D, D = decL p.toNat := ⟨_, rfl⟩
              have hnx : ptrT (ps.take (j + 1)) = ptrT (ps.take j) ++ (32#8 :: E) := by
                rw [List.take_succ_eq_append_getElem hjl, ptrT_snoc, ← hp, hE]
              have hEl : E.length ≤ 2 := by rw [hE]; exact decL_len _
              rw [← hE] at HI
              have hl : (ptrT (ps.take j)).length ≤ 3000 := by
                have h1 := ptrT_len (ps.take j)
                rw [List.length_take] at h1
                omega
              obtain ⟨T, hT⟩ : ∃ X, X = S2 ++ ptrT (ps.take j) := ⟨_, rfl⟩
              rw [← hT]
              obtain ⟨T1, hT1⟩ : ∃ X, X = T ++ [32#8] := ⟨_, rfl⟩
              obtain ⟨T2, hT2⟩ : ∃ X, X = T1 ++ E := ⟨_, rfl⟩
              have lT : T.length ≤ 1004000 := by rw [hT, List.length_append]; have := HL.out.1; omega
              have lT1 : T1.length ≤ 1004001 := by rw [hT1, List.length_append]; simp; omega
              have HNx := Lib.hid (show S2 ++ ptrT (ps.take (j + 1)) = T2 from by rw [hnx, hT2, hT1, hT]; simp)
              obtain ⟨lt0, hlt0⟩ : ∃ n, n = T.length := ⟨_, rfl⟩
              obtain ⟨lt1, hlt1⟩ : ∃ n, n = T1.length := ⟨_, rfl⟩
              obtain ⟨le, hle⟩ : ∃ n, n = E.length := ⟨_, rfl⟩
              have zt : (strB T).size = lt0 := by rw [strB_len, hlt0]
              have zt1 : (strB T1).size = lt1 := by rw [strB_len, hlt1]
              have ze : (strB E).size = le := by rw [strB_len, hle]
              have y1 : (lt0 : Int) ≤ 1004000 := by omega
              have y2 : (lt1 : Int) ≤ 1004001 := by omega
              have y3 : (le : Int) ≤ 2 := by omega
              have e1 : strB T ++ ⟨#[32]⟩ = strB T1 := by rw [hT1]; exact app_sd T ⟨#[32]⟩
              have e2 : strB T1 ++ strB E = strB T2 := by rw [hT2]; exact strB_app T1 E
              have p5 : (0 : Int) ≤ (j : Int) := by omega
              have p6 : (j : Int) < (pn : Int) := by omega
              clear hp hpp hE hnx hEl hl hT hT1 hT2 lT lT1 hlt0 hlt1 hle hjl
              go_wp2_with fail
              refine Calls.mono (HI.out _) ?_
              rintro r w4 ⟨rfl, b4⟩
              have HB4 := Lib.hid (hB.out.trans (b4.mono hB.out.size))
              clear b4 c0 c1 cbl n0 n1 hcell hB HR2 hcl
              go_wp2_with fail
              clear zt zt1 ze y1 y2 y3 e1 e2
              go_roundw
              case rel => exact ⟨j + 1, by go_num, by omega, by rw [HNx.out], HB4⟩
              case measure => simp [Go.RowKit.intOf]; omega
            · have hjN : ps.take j = ps := List.take_of_length_le (by have := HL.out; omega)
              rw [hjN]
              obtain ⟨T, hT⟩ : ∃ X, X = S2 ++ ptrT ps := ⟨_, rfl⟩
              rw [← hT]
              have lT : T.length ≤ 1004000 := by rw [hT, List.length_append]; have := HL.out; have := ptrT_len ps; omega
              obtain ⟨lt0, hlt0⟩ : ∃ n, n = T.length := ⟨_, rfl⟩
              have zt : (strB T).size = lt0 := by rw [strB_len, hlt0]
              have y1 : (lt0 : Int) ≤ 1004000 := by omega
              by_cases hM : 0 < dn
              · have hne : bs ≠ [] := fun e => by have h := HL.out.2.2.2.2.2; rw [e] at h; simp at h; omega
                have hx : xT bs = [32#8, 120#8] := by unfold xT; rw [if_neg hne]
                have hM2 : (0 : Int) < (dn : Int) := by omega
                obtain ⟨E, hE⟩ : ∃ X, X = hexB bs := ⟨_, rfl⟩
                have HHx := Lib.hid (show Calls Tryd.prog 34 #[.slice dA dn dc] wr (RetP (.string (strB E)) wr) from by
                  have h := hex_c wr dA dc bs HR2.out.2 (by have := HL.out; omega)
                  rw [← HL.out.2.2.2.2.2, ← hE] at h
                  exact h)
                have hEl : E.length ≤ 4000 := by rw [hE, hexB_len]; have := HL.out; omega
                obtain ⟨T1, hT1⟩ : ∃ X, X = T ++ [32#8, 120#8] := ⟨_, rfl⟩
                obtain ⟨T2, hT2⟩ : ∃ X, X = T1 ++ E := ⟨_, rfl⟩
                obtain ⟨T3, hT3⟩ : ∃ X, X = T2 ++ [10#8] := ⟨_, rfl⟩
                have lT1 : T1.length ≤ 1004002 := by rw [hT1, List.length_append]; simp; omega
                have lT2 : T2.length ≤ 1008002 := by rw [hT2, List.length_append]; omega
                have HNx := Lib.hid (show RT ++ nodesT (MS.take (k + 1)) 0 = T3 from by rw [HFin.out, hx, hT3, hT2, hT1, hT, hE])
                obtain ⟨lt1, hlt1⟩ : ∃ n, n = T1.length := ⟨_, rfl⟩
                obtain ⟨lt2, hlt2⟩ : ∃ n, n = T2.length := ⟨_, rfl⟩
                obtain ⟨le, hle⟩ : ∃ n, n = E.length := ⟨_, rfl⟩
                have zt1 : (strB T1).size = lt1 := by rw [strB_len, hlt1]
                have zt2 : (strB T2).size = lt2 := by rw [strB_len, hlt2]
                have ze : (strB E).size = le := by rw [strB_len, hle]
                have y2 : (lt1 : Int) ≤ 1004002 := by omega
                have y3 : (le : Int) ≤ 4000 := by omega
                have y4 : (lt2 : Int) ≤ 1008002 := by omega
                have e1 : strB T ++ ⟨#[32, 120]⟩ = strB T1 := by rw [hT1]; exact app_sd T ⟨#[32, 120]⟩
                have e2 : strB T1 ++ strB E = strB T2 := by rw [hT2]; exact strB_app T1 E
                have e3 : strB T2 ++ ⟨#[10]⟩ = strB T3 := by rw [hT3]; exact app_sd T2 ⟨#[10]⟩
                clear hne hx hE hEl hT hT1 hT2 hT3 lT lT1 lT2 hlt0 hlt1 hlt2 hle hjN
                go_wp2_with fail
                refine Calls.mono HHx.out ?_
                rintro r w4 ⟨rfl, b4⟩
                have HB4 := Lib.hid (hB.out.trans (b4.mono hB.out.size))
                clear b4 c0 c1 cbl n0 n1 hB HR2 HHx hcl
                go_wp2_with fail
                clear zt zt1 zt2 ze y1 y2 y3 y4 e1 e2 e3
                go_roundw
                case rel => exact ⟨k + 1, by go_num, by omega, by rw [HNx.out], HB4⟩
                case measure => simp [Go.RowKit.intOf]; omega
              · obtain rfl : dn = 0 := by omega
                have hbs : bs = [] := List.eq_nil_of_length_eq_zero HL.out.2.2.2.2.2.symm
                obtain ⟨T3, hT3⟩ : ∃ X, X = T ++ [10#8] := ⟨_, rfl⟩
                have HNx := Lib.hid (show RT ++ nodesT (MS.take (k + 1)) 0 = T3 from by
                  rw [HFin.out, hbs, hT3, hT]
                  show S2 ++ ptrT ps ++ [] ++ [] ++ [10#8] = _
                  rw [List.append_nil, List.append_nil])
                have e3 : strB T ++ ⟨#[10]⟩ = strB T3 := by rw [hT3]; exact app_sd T ⟨#[10]⟩
                have HBe := hB
                clear hbs hT hT3 lT hlt0 hjN hM
                go_wp2_with fail
                clear zt y1 e3 c0 c1 cbl n0 n1 hcl
                go_roundw
                case rel => exact ⟨k + 1, by go_num, by omega, by rw [HNx.out], HBe⟩
                case measure => simp [Go.RowKit.intOf]; omega
        · have hkN : MS.take k = MS := List.take_of_length_le (by rw [HMS.out, List.length_map, ← HN.out.1]; omega)
          have hfin : RT ++ nodesT (MS.take k) 0 = PT := by rw [hkN, HPT.out, HRT.out]; rfl
          rw [hfin]
          have HB5 := Lib.hid (HX.out wr hB.out).2.2
          go_wp2_with fail
          go_ret
          exact ⟨rfl, HB5.out⟩
end Go.Proofs.YtdppnggchpchgaaDoor
/- A graph that is canonical stays as it is (pure). No conditions. -/
namespace Go.Proofs.YtdppnggchpchgaaDoor
set_option linter.unusedVariables false
set_option linter.unusedSimpArgs false
open Go.RowKit Go.Maps
theorem feed_ext {N : Nat} : ∀ (l out : List Int), ∃ e, feedW N out l = out ++ e
  | [], out => ⟨[], by simp [feedW]⟩
  | p :: r, out => by
    obtain ⟨e, h⟩ := feed_ext r (stepW N out p)
    have h2 : feedW N out (p :: r) = feedW N (stepW N out p) r := rfl
    rw [h2, h]
    unfold stepW
    split
    · exact ⟨p :: e, by simp⟩
    · exact ⟨e, rfl⟩
theorem feed_in {N : Nat} : ∀ (l out : List Int) (q : Int), q ∈ l → hasG N q = true → q ∈ feedW N out l
  | p :: r, out, q, hq, hh => by
    have h2 : feedW N out (p :: r) = feedW N (stepW N out p) r := rfl
    rw [h2]
    rcases List.mem_cons.1 hq with rfl | hq
    · obtain ⟨e, h⟩ := feed_ext (N := N) r (stepW N out q)
      rw [h]
      refine List.mem_append.2 (.inl ?_)
      unfold stepW
      by_cases c : q ∈ out
      · rw [if_neg (fun k => k.2 c)]; exact c
      · rw [if_pos ⟨hh, c⟩]; simp
    · exact feed_in r _ q hq hh
theorem iter_ext {ns : List Nv} {o : List Int} (i : Nat) : ∀ k, ∃ e, iterW ns o (i + k) = iterW ns o i ++ e
  | 0 => ⟨[], by simp⟩
  | k + 1 => by
    obtain ⟨e, h⟩ := iter_ext (ns := ns) (o := o) i k
    cases c : (iterW ns o (i + k))[i + k]? with
    | none => exact ⟨e, by rw [show i + (k + 1) = (i + k) + 1 by omega, iterW_none c, h]⟩
    | some p =>
      obtain ⟨e2, h2⟩ := feed_ext (N := ns.length) (ptrsG ns p) (iterW ns o (i + k))
      exact ⟨e ++ e2, by rw [show i + (k + 1) = (i + k) + 1 by omega, iterW_some c, h2, h, List.append_assoc]⟩
theorem walk_closed (ns : List Nv) (fr : List Int) {p q : Int} (hp : p ∈ walkL ns fr) (hq : q ∈ ptrsG ns p) (hh : hasG ns.length q = true) : q ∈ walkL ns fr := by
  obtain ⟨j, hj, e⟩ := List.mem_iff_getElem.1 hp
  have hlen := walkL_len ns fr
  have hM : walkL ns fr = iterW ns (feedW ns.length [] fr) (ns.length + 1) := rfl
  generalize ho : feedW ns.length [] fr = o at hM
  have hlong : j < (iterW ns o j).length := by
    rcases Nat.lt_or_ge j (iterW ns o j).length with h | h
    · exact h
    · have h2 := iterW_end h (ns.length + 1 - j)
      rw [show j + (ns.length + 1 - j) = ns.length + 1 by omega, ← hM] at h2
      rw [← h2] at h
      omega
  obtain ⟨e1, h1⟩ := iter_ext (ns := ns) (o := o) j (ns.length + 1 - j)
  rw [show j + (ns.length + 1 - j) = ns.length + 1 by omega, ← hM] at h1
  have hjp : (iterW ns o j)[j]? = some p := by
    have h2 : (walkL ns fr)[j]? = some p := by rw [List.getElem?_eq_getElem hj, e]
    rw [h1, List.getElem?_append_left hlong] at h2
    exact h2
  have hin : q ∈ iterW ns o (j + 1) := by
    rw [iterW_some hjp]
    exact feed_in _ _ q hq hh
  obtain ⟨e3, h3⟩ := iter_ext (ns := ns) (o := o) (j + 1) (ns.length - j)
  rw [show j + 1 + (ns.length - j) = ns.length + 1 by omega, ← hM] at h3
  rw [h3]
  exact List.mem_append.2 (.inl hin)
theorem walk_from (ns : List Nv) (fr : List Int) {p : Int} (hp : p ∈ fr) (hh : hasG ns.length p = true) : p ∈ walkL ns fr := by
  obtain ⟨e, h⟩ := iter_ext (ns := ns) (o := feedW ns.length [] fr) 0 (ns.length + 1)
  have hM : walkL ns fr = iterW ns (feedW ns.length [] fr) (0 + (ns.length + 1)) := by rw [Nat.zero_add]; rfl
  rw [hM, h]
  exact List.mem_append.2 (.inl (feed_in _ _ p hp hh))
theorem can_pk {g : Gv} {cn : List Nv} (h0 : ckG g = 0) (h : cn.map Nv.m = canM g) : Pk g.n (walkL g.n (g.r.map (·.t))) cn := by
  obtain ⟨hok, _⟩ := ck_ok h0
  obtain ⟨a, b⟩ := walkL_nd g.n (g.r.map (·.t))
  refine ⟨b, a, fun p hp q hq => ?_, h⟩
  have hq2 : okP g.n.length q = true := by
    unfold ptrsG at hq
    cases e : g.n[(p - 1).toNat]? with
    | none => rw [e] at hq; cases hq
    | some x => rw [e] at hq; exact hok x (List.mem_of_getElem? e) q hq
  have h5 := okP_iff.1 hq2
  by_cases e : q = 0
  · exact .inl e
  · exact .inr (walk_closed _ _ hp hq (hasG_iff.2 (by omega)))
theorem can_can {g c : Gv} (h0 : ckG g = 0) (h1 : c.n.map Nv.m = canM g) (h2 : c.r = canR g) : canM c = canM g ∧ canR c = canR g ∧ ckG c = 0 := by
  have hpk := can_pk h0 h1
  obtain ⟨hok, hrt⟩ := ck_ok h0
  obtain ⟨z1, z2, z3⟩ := ck_zero h0
  have root : ∀ r ∈ g.r, r.t = 0 ∨ r.t ∈ walkL g.n (g.r.map (·.t)) := fun r hr => by
    have h5 := okP_iff.1 (hrt r hr)
    by_cases e : r.t = 0
    · exact .inl e
    · exact .inr (walk_from _ _ (List.mem_map.2 ⟨r, hr, rfl⟩) (hasG_iff.2 (by omega)))
  have hmt : c.r.map (·.t) = (g.r.map (·.t)).map (newO (walkL g.n (g.r.map (·.t)))) := by rw [h2]; unfold canR; rw [List.map_map, List.map_map]; rfl
  obtain ⟨w1, w2⟩ := hpk.walk (fr := g.r.map (·.t)) (fun p hp => by
    obtain ⟨r, h, rfl⟩ := List.mem_map.1 hp
    exact root r h)
  obtain ⟨a1, a2⟩ := hpk.again w2
  refine ⟨?_, ?_, ?_⟩
  · show pickN c.n (walkL c.n (c.r.map (·.t))) (walkL c.n (c.r.map (·.t))) = _
    rw [hmt, w1]; exact a2
  · show c.r.map (fun r => (⟨r.s, newO (walkL c.n (c.r.map (·.t))) r.t⟩ : Rv)) = _
    rw [hmt, w1, h2]
    unfold canR
    rw [List.map_map]
    exact List.map_congr_left fun r h => by
      show (⟨r.s, newO _ (newO (walkL g.n (g.r.map (·.t))) r.t)⟩ : Rv) = _
      rw [a1 r.t (root r h)]
  · unfold ckG
    rw [if_pos (hpk.ck z1), h2]
    unfold canR
    rw [List.length_map, if_neg (by omega)]
    exact ckRoots_map z3 (fun r h => hpk.okp (root r h))
end Go.Proofs.YtdppnggchpchgaaDoor
/- Stage 18: contracts in the form that regions want. No conditions. -/
namespace Go.Proofs.YtdppnggchpchgaaDoor
set_option linter.unusedVariables false
set_option linter.unusedSimpArgs false
open Go.RowKit Go.Maps
theorem can_few {g : Gv} (hf : FewP g) (c : Gv) (h1 : c.n.map Nv.m = canM g) (h2 : c.r = canR g) : FewP c := hf.pick (walkL_nd _ _).2 (walkL_nd _ _).1 h1 h2
theorem csame_k {W : World} {a b : Gv} {u v : Value} {p : Bool} (ea : a.v = u) (eb : b.v = v) (oa : CanOk a) (ob : CanOk b) (hp : sameC a b = p) (ha : a.At W W.heap.size) (hb : b.At W W.heap.size) : Calls Tryd.prog 21 #[u, v] W (RetP (.bool p) W) := by
  rw [← ea, ← eb, ← hp]
  exact csame_c W a b ha hb oa ob
theorem rck_k {W : World} {g : Gv} {v : Value} (hf : FewP g) (h : OfV g v W) : Calls Tryd.prog 9 #[v] W (RetP (.int .i64 (ckG g)) W) := by
  obtain ⟨g1, rfl, h1, n1, r1⟩ := h
  have k := rcheck_c W g1 h1 (hf.same (by rw [n1]) r1)
  rw [show ckG g1 = ckG g from by unfold ckG; rw [n1, r1]] at k
  exact k
theorem req_oc {W : World} {c : Gv} {u v : Value} {ms : List (List Int × List (BitVec 8))} {rs : List Rv} (hf : FewP c) (h1 : c.n.map Nv.m = ms) (h2 : c.r = rs) (hu : OfV c u W) (hv : CnV ms rs v W) : Calls Tryd.prog 12 #[u, v] W (RetP (.bool true) W) := by
  obtain ⟨g1, rfl, a1, m1, r1⟩ := hu
  obtain ⟨g2, rfl, a2, m2, r2⟩ := hv
  have k := req_c W g1 g2 a1 a2 (hf.same (by rw [m1]) r1)
  rw [same_true (by rw [r1, h2, r2]) (by rw [m1, h1, m2])] at k
  exact k
theorem text_k {W : World} {g : Gv} {v : Value} {T : List (BitVec 8)} (hv : g.v = v) (hf : FewP g) (h0 : ckG g = 0) (hT : textL (canR g) (canM g) = T) (h : g.At W W.heap.size) (ht : W.cell? ⟨2, 15, none⟩ = some (.int .u8 4)) : Calls Tryd.prog 14 #[v] W (RetP (.string (strB T)) W) := by
  rw [← hv, ← hT]
  exact text_c W g h (can_ok h0 hf.small) (text_ok hf) ht
theorem rtext_k {W : World} {g x : Gv} {v : Value} {T : List (BitVec 8)} (hv : x.v = v) (hf : FewP g) (h0 : ckG g = 0) (hx : x.n = g.n ∧ x.r = g.r) (hT : textL (canR g) (canM g) = T) (h : x.At W W.heap.size) : Calls Tryd.prog 15 #[v] W (RetP (.string (strB T)) W) := by
  rw [← hv, ← hT]
  exact rtext_c W g x.v hf h0 ⟨x, rfl, h, hx.1, hx.2⟩ ⟨x, rfl⟩
theorem order_k {W : World} {g : Gv} {v : Value} (hv : g.v = v) (hf : FewP g) (h : g.At W W.heap.size) : Calls Tryd.prog 17 #[v] W fun e w2 => ∃ u, e = .returned u ∧ Below W.heap.size W w2 ∧ IntsV (walkL g.n (g.r.map (·.t))) u w2 := by
  rw [← hv]
  refine (order_c W g h hf.small).mono ?_
  rintro e w' ⟨A, n, c, rfl, rfl, hr, hb⟩
  exact ⟨_, rfl, hb, A, c, rfl, hr⟩
theorem ceq_k {W : World} {c : Gv} {u v : Value} (hv : c.v = v) (hf : FewP c) (h1 : canM c = c.n.map Nv.m) (h2 : canR c = c.r) (hu : CaV c u W) (h : c.At W W.heap.size) : Calls Tryd.prog 20 #[u, v] W (RetP (.bool true) W) := by
  obtain ⟨g1, rfl, a1, m1, r1⟩ := hu
  have k := equalG_c W g1 c a1 h (can_small hf.small m1 r1)
  rw [same_true (by rw [r1, h2]) (by rw [m1, h1]), hv] at k
  exact k
theorem rcan_x {W : World} {g x : Gv} {v : Value} (hv : x.v = v) (hf : FewP g) (h0 : ckG g = 0) (hx : x.n = g.n ∧ x.r = g.r) (h : x.At W W.heap.size) : Calls Tryd.prog 13 #[v] W fun e w2 => ∃ u, e = .returned u ∧ Below W.heap.size W w2 ∧ CnV (canM g) (canR g) u w2 :=
  rcan_k hf h0 ⟨x, hv.symm, h, hx.1, hx.2⟩
end Go.Proofs.YtdppnggchpchgaaDoor
