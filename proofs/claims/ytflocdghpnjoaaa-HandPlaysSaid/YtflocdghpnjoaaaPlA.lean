/- A table of handles besides other blocks: what its methods do; Twin. Conditions: at most 256 handles. -/
import Derived.Test.YtflocdghpnjoaaaHdH
import Derived.Test.YtflocdghpnjoaaaRegS
namespace Go.Proofs.Ytflocdghpnjoaaa
set_option linter.unusedVariables false
set_option linter.unusedSimpArgs false
open Go.RowKit Go.Maps Go.Shelf
set_option maxHeartbeats 400000
set_option maxRecDepth 100000
/-- Block g is a table of handles, of blocks from B on that are none of X. -/
def TabX (B : Nat) (X : Nat → Prop) (w : World) (g : Nat) (l : List (Int × Int)) (last : Nat) : Prop := ∃ mb, TabAt w g mb l last ∧ ∀ k, Own2 g mb k → B ≤ k ∧ ¬ X k
/-- What a call on a table leaves. -/
def TbP (B : Nat) (X : Nat → Prop) (w : World) (g : Nat) (l : List (Int × Int)) (last : Nat) (v : Value) (e : Ending) (w' : World) : Prop := e = .returned v ∧ TabX B X w' g l last ∧ Kept (fun k => B ≤ k ∧ ¬ X k) w w'
section
variable {B : Nat} {X X' S : Nat → Prop} {w w' : World} {g : Nat} {l : List (Int × Int)} {last : Nat}
theorem TabAt.lts {mb : Option Nat} (h : TabAt w g mb l last) : ∀ k, Own2 g mb k → k < w.heap.size := by
  rintro k (rfl | e)
  · exact h.blk.lt
  · exact h.mp.lt k e
theorem TabX.kept (h : TabX B X w g l last) (hk : Kept S w w') (hS : ∀ k, S k → k < B ∨ X k ∨ w.heap.size ≤ k) : TabX B X w' g l last := by
  obtain ⟨mb, h1, h2⟩ := h
  have hn : ∀ k, Own2 g mb k → ¬ S k := fun k ho hs => by
    have h3 := h2 k ho
    have h4 := h1.lts k ho
    rcases hS k hs with e | e | e
    · omega
    · exact h3.2 e
    · omega
  exact ⟨mb, h1.kept hk (hn g (.inl rfl)) (fun b e => hn b (.inr e)), h2⟩
theorem TabX.below (h : TabX B X w g l last) (hb : Below w.heap.size w w') : TabX B X w' g l last := h.kept (Kept.of_below hb (fun _ => False)) (fun _ f => f.elim)
theorem TabX.lt (h : TabX B X w g l last) : g < w.heap.size := by obtain ⟨mb, h1, h2⟩ := h; exact h1.blk.lt
/-- Other blocks may be foreign: what is not of the table. -/
theorem TabX.besides (h : TabX B X w g l last) (hX : ∀ k, X' k → X k ∨ w.heap.size ≤ k) : TabX B X' w g l last := by
  obtain ⟨mb, h1, h2⟩ := h
  refine ⟨mb, h1, fun k ho => ⟨(h2 k ho).1, fun hx => ?_⟩⟩
  have := h1.lts k ho
  rcases hX k hx with e | e
  · exact (h2 k ho).2 e
  · omega
theorem TbP.bel {v : Value} {e : Ending} (h : TbP B X w g l last v e w') (hB : B ≤ w.heap.size) : Below B w w' := h.2.2.below hB (fun _ e => e.1)
theorem hnew_x (w : World) (X : Nat → Prop) (hX : ∀ k, X k → k < w.heap.size) : Calls Try.prog 8 #[] w fun e w' => ∃ g, e = .returned (.pointer (some ⟨g, 0, none⟩)) ∧ TabX w.heap.size X w' g [] 0 ∧ Below w.heap.size w w' := by
  refine (hnew_c w).mono ?_
  rintro e w' ⟨g, rfl, hg, h1, h2⟩
  exact ⟨g, rfl, ⟨none, h1, fun k hk => by
    rcases hk with rfl | e
    · exact ⟨by omega, fun f => by have := hX _ f; omega⟩
    · cases e⟩, h2⟩
theorem TabX.same {mb : Option Nat} (h2 : ∀ k, Own2 g mb k → B ≤ k ∧ ¬ X k) (hk : Kept (Own2 g mb) w w') : Kept (fun k => B ≤ k ∧ ¬ X k) w w' := hk.more h2
theorem hopen_x (h : TabX B X w g l last) (hX : ∀ k, X k → k < w.heap.size) (hB : B ≤ w.heap.size) (n : Int) (hn : 1 ≤ n) (hM : n ≤ 9223372036854775807) (hl : l.length < 256) (hla : last < 1000000) :
    Calls Try.prog 9 #[.pointer (some ⟨g, 0, none⟩), .int .i64 n] w (TbP B X w g (l ++ [(((last + 1 : Nat) : Int), n)]) (last + 1) (.tuple #[.int .i64 ((last + 1 : Nat) : Int), .int .i64 0])) := by
  obtain ⟨mb, h1, h2⟩ := h
  refine (hopen_ok w g mb l last h1 n hn hM hl hla).mono ?_
  rintro e w' ⟨rfl, mb', h3, h4, h5⟩
  refine ⟨rfl, ⟨mb', h3, fun k hk => ?_⟩, h4.more h2⟩
  rcases hk with rfl | e
  · exact h2 _ (.inl rfl)
  · rcases h5 with h5 | h5
    · exact h2 k (.inr (h5 ▸ e))
    · rw [h5] at e
      injection e with e
      exact ⟨by omega, fun f => by have := hX k f; omega⟩
theorem hopenarg_x (h : TabX B X w g l last) (n : Int) (hn : n < 1) :
    Calls Try.prog 9 #[.pointer (some ⟨g, 0, none⟩), .int .i64 n] w (TbP B X w g l last (.tuple #[.int .i64 0, .int .i64 1])) := by
  refine (hopen_arg w g n hn).mono ?_
  rintro e w' ⟨rfl, rfl⟩
  exact ⟨rfl, h, Kept.refl _ _⟩
theorem hclose_x (h : TabX B X w g l last) (k : Int) (hk : (Lit.int .i64 k).wf = true) :
    Calls Try.prog 12 #[.pointer (some ⟨g, 0, none⟩), .int .i64 k] w (TbP B X w g (offI l k) last (.bool (lookI l k).isSome)) := by
  obtain ⟨mb, h1, h2⟩ := h
  refine (hclose_c w g mb l last h1 k hk).mono ?_
  rintro e w' ⟨rfl, h3, h4⟩
  exact ⟨rfl, ⟨mb, h3, h2⟩, h4.more h2⟩
theorem hfor_x (h : TabX B X w g l last) (n : Int) (j0 : Nat) (hj0 : j0 < l.length) (hn : l[j0].2 = n) (ha : ∀ j (hj : j < j0), l[j].2 ≠ n) :
    Calls Try.prog 10 #[.pointer (some ⟨g, 0, none⟩), .int .i64 n] w fun e w' => e = .returned (.tuple #[.int .i64 l[j0].1, .int .i64 0]) ∧ Below w.heap.size w w' := by
  obtain ⟨mb, h1, h2⟩ := h
  exact hfor_hit w g mb l last h1 n j0 hj0 hn ha
theorem hfornew_x (h : TabX B X w g l last) (hX : ∀ k, X k → k < w.heap.size) (hB : B ≤ w.heap.size) (n : Int) (hn : 1 ≤ n) (hM : n ≤ 9223372036854775807) (hl : l.length < 256) (hla : last < 1000000) (ha : ∀ j (hj : j < l.length), l[j].2 ≠ n) :
    Calls Try.prog 10 #[.pointer (some ⟨g, 0, none⟩), .int .i64 n] w (TbP B X w g (l ++ [(((last + 1 : Nat) : Int), n)]) (last + 1) (.tuple #[.int .i64 ((last + 1 : Nat) : Int), .int .i64 0])) := by
  have h' := h
  obtain ⟨mb, h1, h2⟩ := h
  refine (hfor_miss w g mb l last h1 n _ _ ha (fun W w' => TabX B X w' g (l ++ [(((last + 1 : Nat) : Int), n)]) (last + 1) ∧ Kept (fun k => B ≤ k ∧ ¬ X k) W w') (fun W hW => (hopen_x (h'.below hW) (fun k e => Nat.lt_of_lt_of_le (hX k e) hW.size) (Nat.le_trans hB hW.size) n hn hM hl hla).mono (fun e w' he => ⟨he.1, he.2.1, he.2.2⟩))).mono ?_
  rintro e w' ⟨rfl, W, hW, h3, h4⟩
  exact ⟨rfl, h3, (Kept.of_below hW _).trans h4⟩
theorem hforarg_x (h : TabX B X w g l last) (n : Int) (hn : n < 1) (ha : ∀ j (hj : j < l.length), l[j].2 ≠ n) :
    Calls Try.prog 10 #[.pointer (some ⟨g, 0, none⟩), .int .i64 n] w (TbP B X w g l last (.tuple #[.int .i64 0, .int .i64 1])) := by
  have h' := h
  obtain ⟨mb, h1, h2⟩ := h
  refine (hfor_miss w g mb l last h1 n _ _ ha (fun W w' => w' = W) (fun W hW => hopen_arg W g n hn)).mono ?_
  rintro e w' ⟨rfl, W, hW, h3⟩
  subst h3
  exact ⟨rfl, h'.below hW, Kept.of_below hW _⟩
theorem hren_x (h : TabX B X w g l last) (T : Option Addr) (cT : Nat) (to : List Int) (hr : Rd i64 w w.heap.size T to) (hT : 0 < to.length → ∀ ad, T = some ad → ad.block < B ∨ X ad.block) (hM : to.length ≤ 1000) (hw : ∀ x ∈ to, x ≤ 9223372036854775807) :
    Calls Try.prog 13 #[.pointer (some ⟨g, 0, none⟩), .slice T to.length cT] w (TbP B X w g (renL to l) last (.int .i64 ((l.length - (renL to l).length : Nat) : Int))) := by
  obtain ⟨mb, h1, h2⟩ := h
  refine (hren_c w g mb l last h1 T cT to hr (fun h0 a e hm => ?_) hM hw).mono ?_
  · have := h2 _ hm
    rcases hT h0 a e with f | f
    · omega
    · exact this.2 f
  · rintro e w' ⟨rfl, h3, h4⟩
    exact ⟨rfl, ⟨mb, h3, h2⟩, h4.more h2⟩
theorem hget_x (h : TabX B X w g l last) (k : Int) (hk : (Lit.int .i64 k).wf = true) :
    Calls Try.prog 18 #[.pointer (some ⟨g, 0, none⟩), .int .i64 k] w fun e w' => e = .returned (.tuple #[.int .i64 ((lookI l k).getD 0), .bool (lookI l k).isSome]) ∧ w' = w := by
  obtain ⟨mb, h1, h2⟩ := h
  exact hget_c w g mb l last h1 k hk
theorem hlive_x (h : TabX B X w g l last) : Calls Try.prog 16 #[.pointer (some ⟨g, 0, none⟩)] w (NewRow w (l.map (·.1))) := by
  obtain ⟨mb, h1, h2⟩ := h
  exact hlive_c w g mb l last h1
theorem hnodes_x (h : TabX B X w g l last) : Calls Try.prog 17 #[.pointer (some ⟨g, 0, none⟩)] w (NewRow w (l.map (·.2))) := by
  obtain ⟨mb, h1, h2⟩ := h
  exact hnodes_c w g mb l last h1
/-- maps.Clone of a table's map. -/
theorem hclone_c (w : World) (mb : Option Nat) (l : List (Int × Int)) (h : MapIs w mb l) : Calls Try.prog 19 #[.map mb] w fun e w' => ∃ mb2, e = .returned (.map mb2) ∧ MapIs w' mb2 l ∧ Below w.heap.size w w' ∧ ∀ b, mb2 = some b → w.heap.size ≤ b ∧ b < w'.heap.size := by
  cases mb with
  | none =>
    have := AnyW.maps_Clone_nil cloneA w
    change Calls Try.prog 19 #[.map none] w _ at this
    refine this.mono ?_
    rintro e w' ⟨rfl, rfl⟩
    exact ⟨none, rfl, h, Below.refl _ _, fun b e => by cases e⟩
  | some b =>
    have hown : w.ownsMap Try.prog 3 (plainElem Try.prog 3) b l.length (mD l) := h
    have := AnyW.maps_Clone_owns cloneA 3 _ b l.length (mD l) w hown
    change Calls Try.prog 19 #[.map (some b)] w _ at this
    refine this.mono ?_
    rintro e w' ⟨rfl, h1, h2, h3⟩
    exact ⟨_, rfl, h1, h3, fun b e => by injection e with e; subst e; exact ⟨Nat.le_refl _, World.ownsMap.lt h1⟩⟩
theorem htwin_c (h : TabX B X w g l last) (hX : ∀ k, X k → k < w.heap.size) (hB : B ≤ w.heap.size) :
    Calls Try.prog 14 #[.pointer (some ⟨g, 0, none⟩)] w fun e w' => ∃ g2, e = .returned (.pointer (some ⟨g2, 0, none⟩)) ∧ w.heap.size ≤ g2 ∧ TabX w.heap.size X w' g2 l last ∧ Below w.heap.size w w' := by
  obtain ⟨mb, h1, h2⟩ := h
  have hcl := fun W (hb : Below w.heap.size w W) => hclone_c W mb l (h1.below hb).mp
  have hbk := fun W (hb : Below w.heap.size w W) => (h1.below hb).blk.two
  have hh := h1.blk.two
  have HX := Lib.hid (And.intro h1 hX)
  have HC := Lib.hid hcl
  have HK := Lib.hid hbk
  clear h1 h2 hX hB hcl hbk
  go_enter Try.func14, Try.ntmps14
  go_wp2_with fail
  refine region_by_spine [4, 9, 10, 11] [(0, 3, .pointer (some ⟨g, 0, none⟩)), (1, 4, .pointer (some ⟨g, 0, none⟩)), (2, 5, .pointer (some ⟨g, 0, none⟩)), (3, 6, .map mb), (5, 8, .pointer (some ⟨g, 0, none⟩)), (6, 9, .pointer (some ⟨g, 0, none⟩)), (7, 10, .pointer (some ⟨g, 1, none⟩)), (8, 11, .int .i64 last)]
    (fun W => W.cell? ⟨g, 0, none⟩ = some (.map mb) ∧ W.cell? ⟨g, 1, none⟩ = some (.int .i64 last)) (by kernel_rfl) (by kernel_rfl) (by kernel_rfl) (by kernel_rfl) (by kernel_rfl) hh ?_ ?_
  · intro y hy V ρ hV hρ hcst
    obtain ⟨k2, k3⟩ := hV
    have e0 : ρ (.tmp 0) = .pointer (some ⟨g, 0, none⟩) := (hρ 0).trans (by kernel_rfl)
    have e3 : ρ (.tmp 3) = .pointer (some ⟨g, 0, none⟩) := (hρ 3).trans (by kernel_rfl)
    have e4 : ρ (.tmp 4) = .pointer (some ⟨g, 0, none⟩) := (hρ 4).trans (by kernel_rfl)
    have e5 : ρ (.tmp 5) = .pointer (some ⟨g, 0, none⟩) := (hρ 5).trans (by kernel_rfl)
    have e8 : ρ (.tmp 8) = .pointer (some ⟨g, 0, none⟩) := (hρ 8).trans (by kernel_rfl)
    have e9 : ρ (.tmp 9) = .pointer (some ⟨g, 0, none⟩) := (hρ 9).trans (by kernel_rfl)
    have e10 : ρ (.tmp 10) = .pointer (some ⟨g, 1, none⟩) := (hρ 10).trans (by kernel_rfl)
    clear hρ
    simp only [List.mem_cons, List.not_mem_nil, or_false] at hy
    rcases hy with rfl | rfl | rfl | rfl | rfl | rfl | rfl | rfl
    all_goals
      refine ⟨_, rfl, ?_⟩
      go_simp
      try rfl
  simp only [putA, putD, Act.put, List.setIfInBounds_toArray, List.set_cons_zero, List.set_cons_succ]
  refine spine_list rfl rfl rfl ?_
  go_wp2_with fail
  refine Calls.mono (HC.out _ (by first | exact Gw.drew _ | exact bdN (Below.refl _ _) 1)) ?_
  rintro e w3 ⟨mb2, rfl, hm3, b3, hl3⟩
  have b3' : Below w.heap.size w w3 := (Gw.drew _).trans b3
  have hh3 := HK.out w3 b3'
  have HM3 := Lib.hid hm3
  have HB3 := Lib.hid b3'
  have HL3 := Lib.hid hl3
  clear hm3 b3 b3' hl3 HC
  go_wp2_with fail
  refine ⟨rfl, hh3, ?_⟩
  refine spine_list rfl rfl rfl ?_
  go_wp2_with fail
  refine ⟨rfl, hh3, ?_⟩
  refine spine_list rfl rfl rfl ?_
  go_wp2_with fail
  have hb4 := Gw.alloc w3 (.cells #[.map mb2, .int .i64 last] 50)
  have hh4 := HK.out _ (HB3.out.trans (hb4.mono HB3.out.size))
  refine ⟨rfl, hh4, ?_⟩
  refine spine_list rfl rfl rfl ?_
  go_wp2_with fail
  refine ⟨rfl, hh4, ?_⟩
  unfold SpineW
  go_wp2_with fail
  go_ret
  obtain ⟨h, hX⟩ := HX.out
  refine ⟨w3.heap.size, rfl, HB3.out.size, ⟨mb2, ⟨Bk.new _ _ _, HM3.out.kept (Kept.of_below hb4 (fun _ => False)) (fun _ _ f => f), fun b e => ?_, h.rise, h.keys, h.lim, h.len⟩, fun k hk => ?_⟩, HB3.out.trans (hb4.mono HB3.out.size)⟩
  · have := (HL3.out b e).2; omega
  · have hge : w.heap.size ≤ k := by
      rcases hk with rfl | e
      · exact HB3.out.size
      · exact (HL3.out k e).1
    exact ⟨hge, fun f => by have := hX k f; omega⟩
end
end Go.Proofs.Ytflocdghpnjoaaa
