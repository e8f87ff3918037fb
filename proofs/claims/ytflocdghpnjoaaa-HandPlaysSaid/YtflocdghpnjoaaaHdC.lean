/- What hand.Open answers ahead of the first handle; Open of any table. Conditions: at most 1000000 handles made. -/
import Derived.Test.YtflocdghpnjoaaaHdB
import Derived.Carry
namespace Go.Proofs.Ytflocdghpnjoaaa
set_option linter.unusedVariables false
set_option linter.unusedSimpArgs false
open Go.RowKit Go.Maps
set_option maxHeartbeats 400000
set_option maxRecDepth 100000
theorem tab_make (w : World) (g : Nat) (last : Nat) (h : TabAt w g none [] last) :
    TabAt ((w.alloc (.map #[] 0)).setCell ⟨g, 0, none⟩ (.map (some w.heap.size))) g (some w.heap.size) [] last ∧ Kept (Own2 g none) w ((w.alloc (.map #[] 0)).setCell ⟨g, 0, none⟩ (.map (some w.heap.size))) := by
  have hlt := h.blk.lt
  have hm := tighten (l := []) (World.ownsMap_made w Try.prog 3 (plainElem Try.prog 3))
  have hk := Kept.set (w.alloc (.map #[] 0)) g 0 (.map (some w.heap.size))
  refine ⟨⟨(h.blk.alloc _).set 0 _, hm.kept hk (fun b e1 e2 => ?_), fun b e => ?_, h.rise, h.keys, h.lim, h.len⟩, ((Kept.alloc _ w _).trans (hk.more (fun k e => .inl e)))⟩
  · injection e1 with e1; omega
  · injection e with e; omega
theorem hopen_none (w : World) (g : Nat) (last : Nat) (h : TabAt w g none [] last) (n : Int) (hn : 1 ≤ n) (hM : n ≤ 9223372036854775807) (hla : last < 1000000) :
    Calls Try.prog 9 #[.pointer (some ⟨g, 0, none⟩), .int .i64 n] w fun e w' => e = .returned (.tuple #[.int .i64 ((last + 1 : Nat) : Int), .int .i64 0]) ∧ TabAt w' g (some w.heap.size) [(((last + 1 : Nat) : Int), n)] (last + 1) ∧ Kept (Own2 g none) w w' := by
  obtain ⟨c0, c1⟩ := h.blk.two
  have hfz := h.blk.free 0
  have hfzb := (h.blk.alloc (.map #[] 0)).free 0
  have hlen : ∀ (ty : TypeId), (Builtin.len_ #[48] ty #[.map none]).run Try.prog w = .ok (.int .i64 0) w := h.mp.len
  have t1 : decide (n < 1) = false := by simp; omega
  have hnn := MapIs.isnil none
  have hmm := @run_makeMap Try.prog
  have kw : IntKind.i64.wrap ((last : Int) + 1) = (last : Int) + 1 := IntWalk.i64_in _ (by omega)
  have HT := Lib.hid (tab_make w g last h)
  have HB := Lib.hid (show Bk (((w.alloc (.map #[] 0)).setCell ⟨g, 0, none⟩ (.map (some w.heap.size))).setCell ⟨g, 1, none⟩ (.int .i64 ((last : Int) + 1))) g 50 #[.map (some w.heap.size), .int .i64 ((last : Int) + 1)] from HT.out.1.blk.set 1 (.int .i64 ((last : Int) + 1)))
  have HK := Lib.hid (Kept.set ((w.alloc (.map #[] 0)).setCell ⟨g, 0, none⟩ (.map (some w.heap.size))) g 1 (.int .i64 ((last : Int) + 1)))
  have HM := Lib.hid (HT.out.1.mp.kept HK.out (fun c e => HT.out.1.ne c e))
  have HWF := Lib.hid (show (Lit.int .i64 ((last : Int) + 1)).wf = true ∧ (Lit.int .i64 n).wf = true ∧ ([] : List (Int × Int)).length ≤ 1000000 from ⟨wfI (by omega) (by omega), wfI (by omega) hM, by simp⟩)
  have HX := Lib.hid (And.intro h (And.intro hn (And.intro hM hla)))
  obtain ⟨c2, c3⟩ := HT.out.1.blk.two
  obtain ⟨c4, c5⟩ := (h.blk.alloc (.map #[] 0)).two
  have hfz2 := HT.out.1.blk.free 1
  clear h hn hM hla
  go_enter Try.func9, Try.ntmps9
  go_wp2_with fail
  obtain ⟨d0, d1⟩ := HB.out.two
  refine ho_reg _ _ _ g w.heap.size ((last : Int) + 1) n HB.out.lt d0 d1 rfl rfl rfl ?_
  intro vals w1 hG h33 h37 h38
  unfold IsV at h33 h37 h38
  simp only [putD, Act.put, List.setIfInBounds_toArray, List.set_cons_zero, List.set_cons_succ, h33, h37, h38]
  have HB1 := Lib.hid (HB.out.below hG HB.out.lt)
  have HM1 := Lib.hid (HM.out.kept (Kept.of_below hG (fun _ => False)) (fun _ _ h => h))
  have HK1 := Lib.hid (HT.out.2.trans ((HK.out.trans (Kept.of_below hG _)).more (fun k e => (Or.inl e : Own2 g none k))))
  clear h33 h37 h38 d0 d1 hG c0 c1 c2 c3 c4 c5 hfz hfzb hfz2
  obtain ⟨b, hb⟩ : ∃ b, b = w.heap.size := ⟨_, rfl⟩
  rw [← hb] at HM1 HB1
  have HBS := Lib.hid hb
  rw [← hb]
  clear hb HT HB HK HM
  go_wp2_with (at_mapUpdate; refine wp_put_is rfl (.tmp 33) (.tmp 37) (.tmp 38) rfl rfl HM1.out _ _ rfl rfl HWF.out.1 HWF.out.2.1 HWF.out.2.2 ?_; intro w2 h2 k2; have HM2 := Lib.hid h2; have HK2 := Lib.hid k2; have HB2 := Lib.hid (k2.bk HB1.out (fun e => by injection e with e; have := HX.out.1.blk.lt; have := HBS.out; omega)); clear h2 k2; obtain ⟨e0, e1⟩ := HB2.out.two)
  go_ret2
  obtain ⟨h, hn, hM, hla⟩ := HX.out
  have e1 : (((last + 1 : Nat) : Int)) = (last : Int) + 1 := by omega
  refine ⟨by rw [e1]; rfl, ⟨?_, ?_, ?_, ?_, ?_, by omega, by simp⟩, ?_⟩
  · rw [e1, ← HBS.out]; exact HB2.out
  · rw [e1, ← HBS.out]; exact HM2.out
  · intro c e; injection e with e; have := h.blk.lt; have := HBS.out; omega
  · exact List.pairwise_singleton _ _
  · intro p hp
    rw [e1] at hp ⊢
    simp at hp; subst hp; simp; omega
  · exact ⟨HK2.out.os.trans HK1.out.os, HK2.out.tape.trans HK1.out.tape, HK2.out.output.trans HK1.out.output, Nat.le_trans HK1.out.size HK2.out.size, fun k hk hn => (HK2.out.block k (Nat.lt_of_lt_of_le hk HK1.out.size) (fun e => by injection e with e; have := HBS.out; omega)).trans (HK1.out.block k hk hn)⟩
/-- A new handle for a node: what is behind it. -/
def OpenP (w : World) (g : Nat) (mb : Option Nat) (l : List (Int × Int)) (last : Nat) (n : Int) (w' : World) : Prop :=
  ∃ mb', TabAt w' g mb' (l ++ [(((last + 1 : Nat) : Int), n)]) (last + 1) ∧ Kept (Own2 g mb) w w' ∧ (mb' = mb ∨ mb' = some w.heap.size)
theorem hopen_ok (w : World) (g : Nat) (mb : Option Nat) (l : List (Int × Int)) (last : Nat) (h : TabAt w g mb l last) (n : Int) (hn : 1 ≤ n) (hM : n ≤ 9223372036854775807) (hl : l.length < 256) (hla : last < 1000000) :
    Calls Try.prog 9 #[.pointer (some ⟨g, 0, none⟩), .int .i64 n] w fun e w' => e = .returned (.tuple #[.int .i64 ((last + 1 : Nat) : Int), .int .i64 0]) ∧ OpenP w g mb l last n w' := by
  cases mb with
  | none =>
    have e : l = [] := h.mp
    subst e
    refine (hopen_none w g last h n hn hM hla).mono ?_
    rintro e w' ⟨rfl, h1, h2⟩
    exact ⟨rfl, _, h1, h2, .inr rfl⟩
  | some b =>
    refine (hopen_some w g b l last h n hn hM hl hla).mono ?_
    rintro e w' ⟨rfl, h1, h2⟩
    exact ⟨rfl, _, h1, h2, .inl rfl⟩
end Go.Proofs.Ytflocdghpnjoaaa
