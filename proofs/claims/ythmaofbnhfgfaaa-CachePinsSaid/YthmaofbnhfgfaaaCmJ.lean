/- cache.Cache's Put where the key is not there: the walk. Conditions: lengths; what room leaves. -/
import Derived.Test.YthmaofbnhfgfaaaCmI
namespace Go.Proofs.Ythmaofbnhfgfaaa
set_option linter.unusedVariables false
set_option linter.unusedSimpArgs false
open Go.RowKit Go.Maps
set_option maxRecDepth 100000
set_option maxHeartbeats 8000000
theorem map_reg (Q : Exit → Act → World → Prop) (a0 : Act) (w : World) (g q mb i : Nat) (kx ky : Int) (hg : g < w.heap.size) (hq : q < w.heap.size) (c1 : w.cell? ⟨g, 1, none⟩ = some (.map (some mb))) (k0 : w.cell? ⟨q, 0, none⟩ = some (.int .i64 kx)) (k1 : w.cell? ⟨q, 1, none⟩ = some (.int .i64 ky)) (hsz : a0.tmps.size = 66) (sl0 : a0.tmps.getD 0 undef = .pointer (some ⟨g, 0, none⟩)) (sl5 : a0.tmps.getD 5 undef = .pointer (some ⟨q, 0, none⟩)) (sl11 : a0.tmps.getD 11 undef = .int .i64 i)
    (fin : ∀ (vals : Nat → Value) (w1 : World), Below w.heap.size w w1 → (IsV (.map (some mb))) (vals 3) w1 → (IsV (.agg #[.int .i64 kx, .int .i64 ky])) (vals 4) w1 → (IsV (.int .i64 i)) (vals 5) w1 → wpList Try.prog #[{ dst := none, op := Go.Op.mapUpdate 45 (Go.Operand.tmp 62) (Go.Operand.tmp 63) (Go.Operand.tmp 64), type := 0, pos := "", after := #[], guard := none }] Q [{ dst := none, op := Go.Op.mapUpdate 45 (Go.Operand.tmp 62) (Go.Operand.tmp 63) (Go.Operand.tmp 64), type := 0, pos := "", after := #[], guard := none }] (putD vals [59, 60, 61, 62, 63, 64] 0 a0) w1) :
    (Code.region 11 (regIn Try.f8 11) true).wp Try.prog Q a0 w := by
  refine region_by_tail (m := 6) (G := fun w w1 => Below w.heap.size w w1) [IsV (.pointer (some ⟨g, 0, none⟩)),
    IsV (.pointer (some ⟨g, 0, none⟩)),
    IsV (.pointer (some ⟨g, 1, none⟩)),
    IsV (.map (some mb)),
    IsV (.agg #[.int .i64 kx, .int .i64 ky]),
    IsV (.int .i64 i)]
    [59, 60, 61, 62, 63, 64] (by kernel_rfl) (Gw.drew _) Gw.trans (by rw [hsz]; kernel_rfl) (by kernel_rfl) ?_ ?_ ?_
  · intro f hf
    simp only [List.mem_cons, List.not_mem_nil, or_false] at hf
    rcases hf with rfl | rfl | rfl | rfl | rfl | rfl <;> intro v a b h g <;> first | exact IsV.mono h
  · refine ⟨?_, ?_, ?_, ?_, ?_, ?_, trivial⟩
    · exact owes_mv 0 (by kernel_rfl) (by kernel_rfl) (by kernel_rfl) sl0 (fun _ => rfl)
    · refine owes_v (Go.Op.nilCheck (Go.Operand.tmp 59)) 0 [0] (by kernel_rfl) (by kernel_rfl) (by kernel_rfl) rfl fun vals w1 ρ hG hF hρ hcst hfun => ?_
      have e59 : ρ (.tmp 59) = .pointer (some ⟨g, 0, none⟩) := ((hρ 59).trans (slotJ [0] (by rw [hsz]; decide) (by kernel_rfl))).trans (hF 0 (by decide))
      clear hρ hF hcst hfun sl0 sl5 sl11 fin
      exact opv_val (by go_simp <;> rfl) ⟨gw_self _, rfl⟩
    · refine owes_v (Go.Op.fieldAddr 47 (Go.Operand.tmp 60) 1) 0 [1] (by kernel_rfl) (by kernel_rfl) (by kernel_rfl) rfl fun vals w1 ρ hG hF hρ hcst hfun => ?_
      have e60 : ρ (.tmp 60) = .pointer (some ⟨g, 0, none⟩) := ((hρ 60).trans (slotJ [1] (by rw [hsz]; decide) (by kernel_rfl))).trans (hF 1 (by decide))
      clear hρ hF hcst hfun sl0 sl5 sl11 fin
      exact opv_val (by go_simp <;> rfl) ⟨gw_self _, rfl⟩
    · refine owes_v (Go.Op.load 45 (Go.Operand.tmp 61)) 45 [2] (by kernel_rfl) (by kernel_rfl) (by kernel_rfl) rfl fun vals w1 ρ hG hF hρ hcst hfun => ?_
      have e61 : ρ (.tmp 61) = .pointer (some ⟨g, 1, none⟩) := ((hρ 61).trans (slotJ [2] (by rw [hsz]; decide) (by kernel_rfl))).trans (hF 2 (by decide))
      have k := (hG.cell (p := ⟨g, 1, none⟩) hg).trans c1
      clear hρ hF hcst hfun sl0 sl5 sl11 fin
      exact opv_val (by go_simp <;> rfl) ⟨gw_self _, rfl⟩
    · refine owes_v (Go.Op.load 29 (Go.Operand.tmp 5)) 29 [] (by kernel_rfl) (by kernel_rfl) (by kernel_rfl) rfl fun vals w1 ρ hG hF hρ hcst hfun => ?_
      have e5 : ρ (.tmp 5) = .pointer (some ⟨q, 0, none⟩) := ((hρ 5).trans (slotO [] (by kernel_rfl))).trans sl5
      have k := (hG.cell (p := ⟨q, 0, none⟩) hq).trans k0
      have k2 := (hG.cell (p := ⟨q, 1, none⟩) hq).trans k1
      clear hρ hF hcst hfun sl0 sl5 sl11 fin
      exact opv_val (by go_simp <;> rfl) ⟨gw_self _, rfl⟩
    · exact owes_mv 11 (by kernel_rfl) (by kernel_rfl) (by kernel_rfl) sl11 (fun _ => rfl)
  · intro vals w1 hG hF
    exact last_list (by kernel_rfl) (by kernel_rfl) (by kernel_rfl) (fin vals w1 hG (hF 3 (by decide +kernel)) (hF 4 (by decide +kernel)) (hF 5 (by decide +kernel)))
theorem Kept.rde {α : Type} {f : α → Value} {S : Nat → Prop} {w w' : World} {A : Option Addr} {xs : List α} (h : Kept S w w') (hr : Rd f w w.heap.size A xs) (hn : ∀ a, A = some a → xs ≠ [] → ¬ S a.block) : Rd f w' w'.heap.size A xs := by
  cases xs with
  | nil => exact Rd.nil
  | cons y ys => exact h.rd hr (fun a e => hn a e (by simp))
theorem Bk.fiveG {w : World} {g : Nat} {E : TypeId} {a b c d e : Value} (k : Bk w g E #[a, b, c, d, e]) : w.cell? ⟨g, 0, none⟩ = some a ∧ w.cell? ⟨g, 1, none⟩ = some b ∧ w.cell? ⟨g, 2, none⟩ = some c ∧ w.cell? ⟨g, 3, none⟩ = some d ∧ w.cell? ⟨g, 4, none⟩ = some e := ⟨k.cell 0, k.cell 1, k.cell 2, k.cell 3, k.cell 4⟩
section
variable {w : World} {g fb mb N : Nat} {fs : List Fr} {hand : Nat} {tb : Tk}
def frN (k : K2) (bs : List (BitVec 8)) (dirty : Bool) (A : Option Addr) (c : Nat) : Fr := ⟨k, true, bs, dirty, 0, true, A, c⟩
theorem put_new (h : CaAt w g fb mb N fs hand tb none) (k : K2) (hk : kW k) (hv : vOf tb k = none) (A : Option Addr) (bs : List (BitVec 8)) (n c : Nat) (hn : n = bs.length) (hl : n ≤ 1000000) (hr : Rd b8 w w.heap.size A bs) (hA : ∀ a, A = some a → bs ≠ [] → ¬ Cx g fb mb a.block) (dirty : Bool)
    (i : Nat) (o1 o2 : Int) (o3 : Option Addr) (on oc : Nat) (o4 o5 : Bool) (fs2 : List Fr) (hand2 : Nat) (tb2 : Tk) (hi : i < fs2.length) (hv2 : vOf tb2 k = none) (hl2 : tb2.length ≤ 100000) (hlow : ∀ f ∈ fs2, ∀ a, f.A = some a → f.b ≠ [] → a.block < w.heap.size)
    (hRoom : ∀ W, Below w.heap.size w W → Calls Try.prog 17 #[.pointer (some ⟨g, 0, none⟩)] W fun e w' => e = .returned (.tuple #[.int .i64 i, .agg #[.int .i64 o1, .int .i64 o2, .slice o3 on oc, .bool o4, .bool o5], .int .i64 0]) ∧ CaAt w' g fb mb N fs2 hand2 tb2 (some i) ∧ Kept (Cx g fb mb) W w') :
    Calls Try.prog 8 #[.pointer (some ⟨g, 0, none⟩), .agg #[.int .i64 k.1, .int .i64 k.2], .slice A n c, .bool dirty] w fun e w' => ∃ A2 c2, e = .returned (.tuple #[.agg #[.int .i64 o1, .int .i64 o2, .slice o3 on oc, .bool o4, .bool o5], .int .i64 0]) ∧ CaAt w' g fb mb N (fs2.set i (frN k bs dirty A2 c2)) hand2 (setK tb2 k (i : Int)) none ∧ Kept (Cx g fb mb) w w' := by
  obtain ⟨kx, ky⟩ := k
  obtain ⟨W1, hW1⟩ : ∃ W, W = (w.alloc (.cells #[.int .i64 kx, .int .i64 ky] 29)).alloc (.cells #[.int .i64 0, .int .i64 0, .slice none 0 0, .bool false, .bool false] 32) := ⟨_, rfl⟩
  have hb : Below w.heap.size w W1 := by rw [hW1]; exact (Gw.alloc w _).trans ((Gw.alloc _ _).mono (by simp))
  have hz : Bk W1 (w.heap.size + 1) 32 outC := by
    rw [hW1]
    have := Bk.new (w.alloc (.cells #[.int .i64 kx, .int .i64 ky] 29)) 32 #[.int .i64 0, .int .i64 0, .slice none 0 0, .bool false, .bool false]
    simpa [outC] using this
  have hq : Bk W1 w.heap.size 29 #[.int .i64 kx, .int .i64 ky] := by rw [hW1]; exact (Bk.new w _ _).alloc _
  have HA := Lib.hid (at_none (h.below hb) (kx, ky) hk hv)
  rw [hW1] at HA
  have HR := Lib.hid hRoom
  have HW1 := Lib.hid hW1
  have H1 := Lib.hid (And.intro hb (And.intro hz hq))
  have HN := Lib.hid (And.intro hn (And.intro hl (And.intro hr hA)))
  have HL := Lib.hid (show g < w.heap.size ∧ fb < w.heap.size ∧ mb < w.heap.size from ⟨h.blk.lt, h.fr.lt, h.map.lt⟩)
  have HT := Lib.hid (And.intro hi (And.intro hv2 (And.intro hl2 hk)))
  have HLow := Lib.hid hlow
  clear h hb hv hr hn hl hz hq hW1 hRoom hv2 hl2 hk hA hlow
  go_enter Try.func8, Try.ntmps8
  go_wp2_with fail
  refine Calls.mono HA.out ?_
  rintro e w2 ⟨rfl, b2⟩
  rw [← HW1.out] at b2
  have H2 := Lib.hid (show Below w.heap.size w w2 ∧ Bk w2 (w.heap.size + 1) 32 outC ∧ Bk w2 w.heap.size 29 #[.int .i64 kx, .int .i64 ky] from ⟨H1.out.1.trans (b2.mono H1.out.1.size), H1.out.2.1.below b2 H1.out.2.1.lt, H1.out.2.2.below b2 H1.out.2.2.lt⟩)
  clear b2 HA
  go_wp2_with fail
  refine Calls.mono (HR.out w2 H2.out.1) ?_
  rintro e w3 ⟨rfl, h3, k3⟩
  have hx1 : ¬ Cx g fb mb (w.heap.size + 1) := fun e => by have := HL.out; rcases e with e | e | e <;> omega
  have hx0 : ¬ Cx g fb mb w.heap.size := fun e => by have := HL.out; rcases e with e | e | e <;> omega
  have H3 := Lib.hid (show CaAt w3 g fb mb N fs2 hand2 tb2 (some i) ∧ Kept (Cx g fb mb) w w3 ∧ Bk w3 (w.heap.size + 1) 32 outC ∧ Bk w3 w.heap.size 29 #[.int .i64 kx, .int .i64 ky] from ⟨h3, (Kept.of_below H2.out.1 _).trans k3, k3.bk H2.out.2.1 hx1, k3.bk H2.out.2.2 hx0⟩)
  clear h3 k3 hx1 hx0 HR
  go_wp2_with fail
  obtain ⟨q12, hq12⟩ : ∃ q, q = w3.heap.size := ⟨_, rfl⟩
  obtain ⟨W4, hW4⟩ : ∃ W, W = w3.alloc (.cells #[.int .i64 o1, .int .i64 o2, .slice o3 on oc, .bool o4, .bool o5] 32) := ⟨_, rfl⟩
  have hb4 : Below w3.heap.size w3 W4 := by rw [hW4]; exact Gw.alloc w3 _
  have hk12 : Bk W4 q12 32 #[.int .i64 o1, .int .i64 o2, .slice o3 on oc, .bool o4, .bool o5] := by rw [hW4, hq12]; exact Bk.new w3 _ _
  have h4 := H3.out.1.below hb4
  have hz4 := H3.out.2.2.1.below hb4 H3.out.2.2.1.lt
  have hq4 := H3.out.2.2.2.below hb4 H3.out.2.2.2.lt
  have hkw : Kept (Cx g fb mb) w W4 := H3.out.2.1.trans (Kept.of_below hb4 _)
  have hiN : i < N := by have := h4.n; have := HT.out.1; omega
  have hrd : Rd b8 W4 W4.heap.size A bs := hkw.rde HN.out.2.2.1 HN.out.2.2.2
  have HReg := Lib.hid (fun Q a0 => put_reg Q a0 W4 g w.heap.size fb N i n c A kx ky bs dirty h4.blk.lt hq4.lt HN.out.1 HN.out.2.1 hrd h4.three.1 (hq4.cell 0) (hq4.cell 1) (by omega) (by omega))
  have H4 := Lib.hid (show CaAt W4 g fb mb N fs2 hand2 tb2 (some i) ∧ Kept (Cx g fb mb) w W4 ∧ Bk W4 (w.heap.size + 1) 32 outC ∧ Bk W4 w.heap.size 29 #[.int .i64 kx, .int .i64 ky] ∧ Bk W4 q12 32 #[.int .i64 o1, .int .i64 o2, .slice o3 on oc, .bool o4, .bool o5] ∧ w.heap.size + 1 < q12 ∧ q12 < W4.heap.size from ⟨h4, hkw, hz4, hq4, hk12, by rw [hq12]; exact H3.out.2.2.1.lt, hk12.lt⟩)
  rw [← hW4, ← hq12]
  clear hW4 hq12 hb4 hk12 h4 hz4 hq4 hkw hrd hiN
  refine HReg.out _ _ rfl rfl rfl rfl rfl rfl ?_
  intro vals w5 hG h57 h58
  unfold IsV at h58
  obtain ⟨A5, c5, h57v, hr5, ha5⟩ := h57
  simp only [putD, Act.put, List.setIfInBounds_toArray, List.set_cons_zero, List.set_cons_succ, h57v, h58]
  have H5 := Lib.hid (show CaAt w5 g fb mb N fs2 hand2 tb2 (some i) ∧ Kept (Cx g fb mb) w w5 ∧ Bk w5 (w.heap.size + 1) 32 outC ∧ Bk w5 w.heap.size 29 #[.int .i64 kx, .int .i64 ky] ∧ Bk w5 q12 32 #[.int .i64 o1, .int .i64 o2, .slice o3 on oc, .bool o4, .bool o5] ∧ Rd b8 w5 w5.heap.size A5 bs ∧ (∀ a, A5 = some a → W4.heap.size ≤ a.block) from
    ⟨H4.out.1.below hG, H4.out.2.1.trans (Kept.of_below hG _), H4.out.2.2.1.below hG H4.out.2.2.1.lt, H4.out.2.2.2.1.below hG H4.out.2.2.2.1.lt, H4.out.2.2.2.2.1.below hG H4.out.2.2.2.2.1.lt, hr5, ha5⟩)
  have HG5 := Lib.hid hG.size
  clear h57v h58 hG hr5 ha5 HReg
  go_wp2_with (refine wp_stF rfl (.tmp 58) (.tmp 57) rfl fb i (frN (kx, ky) bs dirty A5 c5) rfl (by rw [HN.out.1]; rfl) 52 fs2 H5.out.1.fr HT.out.1 ?_; intro w6 k6 b6 o6; have HK6 := Lib.hid (And.intro k6 o6); clear k6 b6 o6)
  have hg6 := HK6.out.2.bk H5.out.1.blk (fun e => H5.out.1.n1 e.symm)
  have hq6 := HK6.out.2.bk H5.out.2.2.2.1 (fun e => by have := HL.out; omega)
  have HReg2 := Lib.hid (fun Q a0 => map_reg Q a0 w6 g w.heap.size mb i kx ky hg6.lt hq6.lt (hg6.cell 1) (hq6.cell 0) (hq6.cell 1))
  have hm6 := H5.out.1.map.kept HK6.out.2 H5.out.1.n3
  have HM6 := Lib.hid hm6
  clear hg6 hq6 hm6
  have hwf : (Lit.int .i64 (i : Int)).wf = true := wfI (by omega) (by have := HT.out.1; have := H5.out.1.n; have := H5.out.1.nl; omega)
  have HWF := Lib.hid hwf
  clear hwf
  go_wp2_with fail
  refine HReg2.out _ _ rfl rfl rfl rfl ?_
  intro vals7 w7 hG7 h62 h63 h64
  unfold IsV at h62 h63 h64
  simp only [putD, Act.put, List.setIfInBounds_toArray, List.set_cons_zero, List.set_cons_succ, h62, h63, h64]
  have H7 := Lib.hid (And.intro hG7 (HM6.out.below hG7))
  clear h62 h63 h64 hG7 HReg2
  have hne : w.heap.size + 1 ≠ fb ∧ w.heap.size + 1 ≠ mb ∧ q12 ≠ fb ∧ q12 ≠ mb := by have := HL.out; have := H4.out.2.2.2.2.2.1; omega
  have HLoc := Lib.hid (show ∀ w8, Kept (fun q => q = mb) w7 w8 → Bk w8 (w.heap.size + 1) 32 outC ∧ Bk w8 q12 32 #[.int .i64 o1, .int .i64 o2, .slice o3 on oc, .bool o4, .bool o5] from fun w8 k8 => by
    have a1 := HK6.out.2.bk H5.out.2.2.1 hne.1
    have a2 := HK6.out.2.bk H5.out.2.2.2.2.1 hne.2.2.1
    exact ⟨k8.bk (a1.below H7.out.1 a1.lt) hne.2.1, k8.bk (a2.below H7.out.1 a2.lt) hne.2.2.2⟩)
  clear hne
  go_wp2_with (first
    | (refine wp_putK rfl (.tmp 62) (.tmp 63) (.tmp 64) rfl rfl H7.out.2 (kx, ky) rfl (i : Int) rfl HT.out.2.2.2 HWF.out (by have := HT.out.2.2.1; omega) ?_; intro w8 m8 k8; have HM8 := Lib.hid (And.intro m8 (k8.more (S' := fun q => q = mb) (fun q e => by injection e with e; exact e.symm))); obtain ⟨y0, y1, y2, y3, y4⟩ := (HLoc.out w8 HM8.out.2).2.fiveG; clear m8 k8)
    | (refine wp_stR rfl 32 (.tmp 8) (.tmp 65) rfl (w.heap.size + 1) #[.int .i64 o1, .int .i64 o2, .slice o3 on oc, .bool o4, .bool o5] rfl rfl 32 outC (HLoc.out w8 HM8.out.2).1 (by kernel_rfl) rfl (by simp [Value.oneCell']) ?_; intro w9 k9 b9 o9; have HK9 := Lib.hid o9; clear b9 o9 y0 y1 y2 y3 y4))
  obtain ⟨hn, hl, _, _⟩ := HN.out
  have hkk : Kept (fun k => k = fb ∨ k = mb) w5 w8 := (HK6.out.2.more (fun k e => .inl e)).trans ((Kept.of_below H7.out.1 _).trans (HM8.out.2.more (fun k e => .inr e)))
  have hfr8 : Bk w8 fb 52 (fcA (fs2.set i (frN (kx, ky) bs dirty A5 c5))) := HM8.out.2.bk (HK6.out.1.below H7.out.1 HK6.out.1.lt) (fun e => H5.out.1.n3 e.symm)
  have hA5 : ∀ a, A5 = some a → a.block ≠ g ∧ a.block ≠ fb ∧ a.block ≠ mb ∧ a.block ≠ w.heap.size + 1 := fun a e => by
    have := H5.out.2.2.2.2.2.2 a e
    have := H4.out.2.2.2.2.2
    have := HL.out
    omega
  have hr8 : Rd b8 w8 w8.heap.size A5 bs := hkk.rd H5.out.2.2.2.2.2.1 (fun a e e2 => by have := hA5 a e; rcases e2 with e2 | e2; exact this.2.1 e2; exact this.2.2.1 e2)
  have hc8 := H5.out.1.fill HT.out.1 (frN (kx, ky) bs dirty A5 c5) rfl HT.out.2.1 HT.out.2.2.2 hfr8 HM8.out.1 hkk ⟨hr8, by show bs.length ≤ _; omega, fun a e _ => ⟨(hA5 a e).1, (hA5 a e).2.1, (hA5 a e).2.2.1⟩⟩ (by show (0 : Nat) ≤ _; omega)
  have hc9 := hc8.keptS HK9.out (fun e => by have := HL.out; omega) (fun e => by have := HL.out; omega) (fun e => by have := HL.out; omega) (fun f hf a e hb => by
    rcases List.mem_or_eq_of_mem_set hf with e2 | rfl
    · have := HLow.out f e2 a e hb
      show ¬ a.block = _
      omega
    · exact (hA5 a e).2.2.2)
  refine bodyPost_ret (v := .tuple #[.agg #[.int .i64 o1, .int .i64 o2, .slice o3 on oc, .bool o4, .bool o5], .int .i64 0]) (put_res rfl k9 rfl rfl) rfl ⟨A5, c5, rfl, hc9, ?_⟩
  exact (H5.out.2.1.trans (hkk.more (fun k e => by rcases e with e | e; exact .inr (.inl e); exact .inr (.inr e)))).newer HK9.out (by omega)
end
end Go.Proofs.Ythmaofbnhfgfaaa
