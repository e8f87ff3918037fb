/- What table's Bind answers of a name that may be. Conditions: lengths. -/
import Derived.Test.YtdfhdgdhhgabbaaNmE
import Derived.Test.YtdfhdgdhhgabbaaNmZ
namespace Go.Proofs.Ytdfhdgdhhgabbaa
set_option linter.unusedVariables false
set_option linter.unusedSimpArgs false
open Go.RowKit Go.Maps
set_option maxRecDepth 100000
set_option maxHeartbeats 800000
theorem bl_reg (Q : Exit → Act → World → Prop) (a0 : Act) (w : World) (g q : Nat) (mb : Option Nat) (arr : Array Value) (x : Int) (ok : Bool) (hs : arr.size = 32) (hg : Bk w g 34 #[.map mb]) (hq : Bk w q 24 arr) (HL : Hid (LkF w mb arr x ok)) (hsz : a0.tmps.size = 62) (sl0 : a0.tmps.getD 0 undef = .pointer (some ⟨g, 0, none⟩)) (sl4 : a0.tmps.getD 4 undef = .pointer (some ⟨q, 0, none⟩))
    (fin : ∀ (vals : Nat → Value) (w1 : World), Below w.heap.size w w1 → (IsV (.int .i64 x)) (vals 9) w1 → (IsV (.bool ok)) (vals 10) w1 → Q .normal (putD vals [28, 29, 30, 31, 32, 33, 27, 34, 35, 10, 11] 0 a0) w1) :
    (Code.region 6 (regIn Try.f13 6) true).wp Try.prog Q a0 w := by
  refine region_by (G := fun w w1 => Below w.heap.size w w1) [IsV (.pointer (some ⟨g, 0, none⟩)),
    IsV (.pointer (some ⟨g, 0, none⟩)),
    IsV (.pointer (some ⟨g, 0, none⟩)),
    IsV (.map mb),
    IsV (.agg arr),
    IsV (.tuple #[.int .i64 x, .bool ok]),
    IsV (.tuple #[.int .i64 x, .bool ok]),
    IsV (.int .i64 x),
    IsV (.bool ok),
    IsV (.int .i64 x),
    IsV (.bool ok)]
    [28, 29, 30, 31, 32, 33, 27, 34, 35, 10, 11] (by kernel_rfl) (Gw.drew _) Gw.trans (by rw [hsz]; kernel_rfl) (by kernel_rfl) ?_ ?_ ?_
  · intro f hf
    simp only [List.mem_cons, List.not_mem_nil, or_false] at hf
    rcases hf with rfl | rfl | rfl | rfl | rfl | rfl | rfl | rfl | rfl | rfl | rfl <;> intro v a b h g <;> first | exact IsV.mono h
  · refine ⟨?_, ?_, ?_, ?_, ?_, ?_, ?_, ?_, ?_, ?_, ?_, trivial⟩
    · exact owes_mv 0 (by kernel_rfl) (by kernel_rfl) (by kernel_rfl) sl0 (fun _ => rfl)
    · refine owes_v (Go.Op.nilCheck (Go.Operand.tmp 28)) 0 [0] (by kernel_rfl) (by kernel_rfl) (by kernel_rfl) rfl fun vals w1 ρ hG hF hρ hcst hfun => ?_
      have e28 : ρ (.tmp 28) = .pointer (some ⟨g, 0, none⟩) := ((hρ 28).trans (slotJ [0] (by rw [hsz]; decide) (by kernel_rfl))).trans (hF 0 (by decide))
      clear hρ hF hcst hfun sl0 sl4 fin
      exact opv_val (by go_simp <;> rfl) ⟨gw_self _, rfl⟩
    · refine owes_v (Go.Op.fieldAddr 34 (Go.Operand.tmp 29) 0) 0 [1] (by kernel_rfl) (by kernel_rfl) (by kernel_rfl) rfl fun vals w1 ρ hG hF hρ hcst hfun => ?_
      have e29 : ρ (.tmp 29) = .pointer (some ⟨g, 0, none⟩) := ((hρ 29).trans (slotJ [1] (by rw [hsz]; decide) (by kernel_rfl))).trans (hF 1 (by decide))
      clear hρ hF hcst hfun sl0 sl4 fin
      exact opv_val (by go_simp <;> rfl) ⟨gw_self _, rfl⟩
    · refine owes_v (Go.Op.load 32 (Go.Operand.tmp 30)) 32 [2] (by kernel_rfl) (by kernel_rfl) (by kernel_rfl) rfl fun vals w1 ρ hG hF hρ hcst hfun => ?_
      have e30 : ρ (.tmp 30) = .pointer (some ⟨g, 0, none⟩) := ((hρ 30).trans (slotJ [2] (by rw [hsz]; decide) (by kernel_rfl))).trans (hF 2 (by decide))
      have k0 := (hg.below hG hg.lt).cell 0
      clear hρ hF hcst hfun sl0 sl4 fin
      exact opv_val (by go_simp <;> rfl) ⟨gw_self _, rfl⟩
    · refine owes_v (Go.Op.load 24 (Go.Operand.tmp 4)) 24 [] (by kernel_rfl) (by kernel_rfl) (by kernel_rfl) rfl fun vals w1 ρ hG hF hρ hcst hfun => ?_
      have e4 : ρ (.tmp 4) = .pointer (some ⟨q, 0, none⟩) := ((hρ 4).trans (slotO [] (by kernel_rfl))).trans sl4
      clear hρ hF hcst hfun sl0 sl4 fin
      exact opv_loadN e4 (hq.below hG hq.lt) hs
    · refine owes_v (Go.Op.lookup 32 (Go.Operand.tmp 31) (Go.Operand.tmp 32) true) 45 [3, 4] (by kernel_rfl) (by kernel_rfl) (by kernel_rfl) rfl fun vals w1 ρ hG hF hρ hcst hfun => ?_
      have e31 : ρ (.tmp 31) = .map mb := ((hρ 31).trans (slotJ [3, 4] (by rw [hsz]; decide) (by kernel_rfl))).trans (hF 3 (by decide))
      have e32 : ρ (.tmp 32) = .agg arr := ((hρ 32).trans (slotJ [3, 4] (by rw [hsz]; decide) (by kernel_rfl))).trans (hF 4 (by decide))
      have k1 := HL.out w1 hG
      clear hρ hF hcst hfun sl0 sl4 fin
      exact opv_val (by go_simp <;> rfl) ⟨gw_self _, rfl⟩
    · exact owes_mvj 5 33 (by kernel_rfl) (by kernel_rfl) (by kernel_rfl) (by kernel_rfl) (by rw [hsz]; decide) (fun v w h => h)
    · refine owes_v (Go.Op.extract (Go.Operand.tmp 27) 0) 3 [6] (by kernel_rfl) (by kernel_rfl) (by kernel_rfl) rfl fun vals w1 ρ hG hF hρ hcst hfun => ?_
      have e27 : ρ (.tmp 27) = .tuple #[.int .i64 x, .bool ok] := ((hρ 27).trans (slotJ [6] (by rw [hsz]; decide) (by kernel_rfl))).trans (hF 6 (by decide))
      clear hρ hF hcst hfun sl0 sl4 fin
      exact opv_val (by go_simp <;> rfl) ⟨gw_self _, rfl⟩
    · refine owes_v (Go.Op.extract (Go.Operand.tmp 27) 1) 4 [6] (by kernel_rfl) (by kernel_rfl) (by kernel_rfl) rfl fun vals w1 ρ hG hF hρ hcst hfun => ?_
      have e27 : ρ (.tmp 27) = .tuple #[.int .i64 x, .bool ok] := ((hρ 27).trans (slotJ [6] (by rw [hsz]; decide) (by kernel_rfl))).trans (hF 6 (by decide))
      clear hρ hF hcst hfun sl0 sl4 fin
      exact opv_val (by go_simp <;> rfl) ⟨gw_self _, rfl⟩
    · exact owes_mvj 7 34 (by kernel_rfl) (by kernel_rfl) (by kernel_rfl) (by kernel_rfl) (by rw [hsz]; decide) (fun v w h => h)
    · exact owes_mvj 8 35 (by kernel_rfl) (by kernel_rfl) (by kernel_rfl) (by kernel_rfl) (by rw [hsz]; decide) (fun v w h => h)
  · intro vals w1 hG hF
    exact fin vals w1 hG (hF 9 (by decide +kernel)) (hF 10 (by decide +kernel))
theorem bu_reg (Q : Exit → Act → World → Prop) (a0 : Act) (w : World) (g q b : Nat) (arr : Array Value) (to : Int) (hs : arr.size = 32) (hg : Bk w g 34 #[.map (some b)]) (hq : Bk w q 24 arr) (hsz : a0.tmps.size = 62) (sl0 : a0.tmps.getD 0 undef = .pointer (some ⟨g, 0, none⟩)) (sl2 : a0.tmps.getD 2 undef = .int .i64 to) (sl4 : a0.tmps.getD 4 undef = .pointer (some ⟨q, 0, none⟩))
    (fin : ∀ (vals : Nat → Value) (w1 : World), Below w.heap.size w w1 → (IsV (.map (some b))) (vals 3) w1 → (IsV (.agg arr)) (vals 4) w1 → (IsV (.int .i64 to)) (vals 5) w1 → wpList Try.prog #[{ dst := none, op := Go.Op.mapUpdate 32 (Go.Operand.tmp 58) (Go.Operand.tmp 59) (Go.Operand.tmp 60), type := 0, pos := "", after := #[], guard := none }] Q [{ dst := none, op := Go.Op.mapUpdate 32 (Go.Operand.tmp 58) (Go.Operand.tmp 59) (Go.Operand.tmp 60), type := 0, pos := "", after := #[], guard := none }] (putD vals [55, 56, 57, 58, 59, 60] 0 a0) w1) :
    (Code.region 11 (regIn Try.f13 11) true).wp Try.prog Q a0 w := by
  refine region_by_tail (m := 6) (G := fun w w1 => Below w.heap.size w w1) [IsV (.pointer (some ⟨g, 0, none⟩)),
    IsV (.pointer (some ⟨g, 0, none⟩)),
    IsV (.pointer (some ⟨g, 0, none⟩)),
    IsV (.map (some b)),
    IsV (.agg arr),
    IsV (.int .i64 to)]
    [55, 56, 57, 58, 59, 60] (by kernel_rfl) (Gw.drew _) Gw.trans (by rw [hsz]; kernel_rfl) (by kernel_rfl) ?_ ?_ ?_
  · intro f hf
    simp only [List.mem_cons, List.not_mem_nil, or_false] at hf
    rcases hf with rfl | rfl | rfl | rfl | rfl | rfl <;> intro v a b h g <;> first | exact IsV.mono h
  · refine ⟨?_, ?_, ?_, ?_, ?_, ?_, trivial⟩
    · exact owes_mv 0 (by kernel_rfl) (by kernel_rfl) (by kernel_rfl) sl0 (fun _ => rfl)
    · refine owes_v (Go.Op.nilCheck (Go.Operand.tmp 55)) 0 [0] (by kernel_rfl) (by kernel_rfl) (by kernel_rfl) rfl fun vals w1 ρ hG hF hρ hcst hfun => ?_
      have e55 : ρ (.tmp 55) = .pointer (some ⟨g, 0, none⟩) := ((hρ 55).trans (slotJ [0] (by rw [hsz]; decide) (by kernel_rfl))).trans (hF 0 (by decide))
      clear hρ hF hcst hfun sl0 sl2 sl4 fin
      exact opv_val (by go_simp <;> rfl) ⟨gw_self _, rfl⟩
    · refine owes_v (Go.Op.fieldAddr 34 (Go.Operand.tmp 56) 0) 0 [1] (by kernel_rfl) (by kernel_rfl) (by kernel_rfl) rfl fun vals w1 ρ hG hF hρ hcst hfun => ?_
      have e56 : ρ (.tmp 56) = .pointer (some ⟨g, 0, none⟩) := ((hρ 56).trans (slotJ [1] (by rw [hsz]; decide) (by kernel_rfl))).trans (hF 1 (by decide))
      clear hρ hF hcst hfun sl0 sl2 sl4 fin
      exact opv_val (by go_simp <;> rfl) ⟨gw_self _, rfl⟩
    · refine owes_v (Go.Op.load 32 (Go.Operand.tmp 57)) 32 [2] (by kernel_rfl) (by kernel_rfl) (by kernel_rfl) rfl fun vals w1 ρ hG hF hρ hcst hfun => ?_
      have e57 : ρ (.tmp 57) = .pointer (some ⟨g, 0, none⟩) := ((hρ 57).trans (slotJ [2] (by rw [hsz]; decide) (by kernel_rfl))).trans (hF 2 (by decide))
      have k0 := (hg.below hG hg.lt).cell 0
      clear hρ hF hcst hfun sl0 sl2 sl4 fin
      exact opv_val (by go_simp <;> rfl) ⟨gw_self _, rfl⟩
    · refine owes_v (Go.Op.load 24 (Go.Operand.tmp 4)) 24 [] (by kernel_rfl) (by kernel_rfl) (by kernel_rfl) rfl fun vals w1 ρ hG hF hρ hcst hfun => ?_
      have e4 : ρ (.tmp 4) = .pointer (some ⟨q, 0, none⟩) := ((hρ 4).trans (slotO [] (by kernel_rfl))).trans sl4
      clear hρ hF hcst hfun sl0 sl2 sl4 fin
      exact opv_loadN e4 (hq.below hG hq.lt) hs
    · exact owes_mv 2 (by kernel_rfl) (by kernel_rfl) (by kernel_rfl) sl2 (fun _ => rfl)
  · intro vals w1 hG hF
    exact last_list (by kernel_rfl) (by kernel_rfl) (by kernel_rfl) (fin vals w1 hG (hF 3 (by decide +kernel)) (hF 4 (by decide +kernel)) (hF 5 (by decide +kernel)))
def BnP (full : Bool) (B : Nat) (w : World) (g : Nat) (m : Tb) (k : Nm) (x to : Int) (e : Ending) (w' : World) : Prop := match full with
  | true => TbP B w g m (.tuple #[.int .i64 0, .int .i64 6]) e w'
  | false => TbP B w g (setN m k to) (.tuple #[.int .i64 x, .int .i64 0]) e w'
theorem bind_a {B : Nat} {w : World} {g : Nat} (h1 : Bk w g 34 #[.map none]) (h2 : NmO w none []) (h3 : B ≤ g) (h4 : ∀ c, (none : Option Nat) = some c → B ≤ c ∧ c ≠ g) (hB : B ≤ w.heap.size) (bs : Nm) (hgd : goodN bs) (to : Int) (ht : 1 ≤ to) (ht2 : to ≤ 9223372036854775807) (hm : ([] : Tb).length ≤ 100000) (x : Int) (hx : (vOf [] (padNm bs)).getD 0 = x) (ho : (vOf [] (padNm bs)).isSome = false) :
    Calls Try.prog 13 #[.pointer (some ⟨g, 0, none⟩), nV (padNm bs), .int .i64 to] w (BnP false B w g [] (padNm bs) x to) := by
  have hk : nW (padNm bs) := padNm_w hgd.2.1
  have hl := h2.lkf hk
  rw [hx, ho] at hl
  have hs := nC_size hk
  have heq := eqN (padNm bs) (padNm bs) hk hk
  rw [show decide (padNm bs = padNm bs) = true from by simp] at heq
  have HM := Lib.hid (And.intro h2 (And.intro h3 h4))
  have HK := Lib.hid hk
  have HST := Lib.hid (fun W => string_c W (padNm bs) hk)
  have HFX := Lib.hid (fun W => fix_ok bs W hgd)
  rw [good_cut hgd] at HST
  have HONE := Lib.hid (nC_one (padNm bs))
  have HTO := Lib.hid (wfI (n := to) (by omega) ht2)
  have HLEN := Lib.hid hm
  unfold nV at HST HFX ⊢
  obtain ⟨arr, harr⟩ : ∃ arr, arr = nC (padNm bs) := ⟨_, rfl⟩
  obtain ⟨st, hst⟩ : ∃ st, st = strB bs := ⟨_, rfl⟩
  rw [← harr] at hl hs HONE HST HFX heq ⊢
  rw [← hst] at HST HFX
  have HA := Lib.hid harr
  have HL := Lib.hid hl
  have HG := Lib.hid h1
  have HS := Lib.hid hs
  have HBB := Lib.hid hB
  obtain ⟨za, hza⟩ : ∃ za, za = nC zN := ⟨_, rfl⟩
  have hzero := zeroN
  rw [← hza] at hzero
  have HZS := Lib.hid (show za.size = 32 from by rw [hza]; exact nC_size zN_w)
  have q1 : decide (to < 1) = false := by simp; omega
  clear hl hs harr hst h1 h2 h3 h4 hx ho hk hB hza hgd ht ht2 hm
  have HQ := Lib.hid (Bk.new w 24 arr)
  have HW := Lib.hid (Gw.alloc w (.cells arr 24))
  go_enter Try.func13, Try.ntmps13
  go_wp2_with (refine wp_loadG rfl _ rfl w.heap.size rfl 24 arr HQ.out HS.out ?_)
  refine Calls.mono (HST.out _) ?_
  rintro e w1 ⟨rfl, b1⟩
  have HQ1 := Lib.hid (HQ.out.below b1 HQ.out.lt)
  have HW1 := Lib.hid (HW.out.trans (b1.mono (by simp)))
  clear b1 HQ HW HST
  go_wp2_with fail
  refine Calls.mono (HFX.out _) ?_
  rintro e w2 ⟨rfl, b2⟩
  have HQ2 := Lib.hid (HQ1.out.below b2 HQ1.out.lt)
  have HW2 := Lib.hid (HW1.out.trans (b2.mono HW1.out.size))
  have HN2 := Lib.hid (show w.heap.size < w2.heap.size from Nat.lt_of_lt_of_le HQ1.out.lt b2.size)
  clear b2 HQ1 HW1 HFX
  have HR2 := Lib.hid (Bk.new w2 24 za)
  have HQ2a := Lib.hid (HQ2.out.alloc (.cells za 24))
  have HW2a := Lib.hid (HW2.out.trans ((Gw.alloc w2 (.cells za 24)).mono HW2.out.size))
  go_wp2_with (first
    | (refine wp_storeN rfl _ _ rfl w2.heap.size arr rfl rfl 24 za HR2.out HS.out HZS.out HONE.out ?_; intro w3 k3 b3 o3; have HR3 := Lib.hid k3; have HQ3 := Lib.hid (show Bk w3 w.heap.size 24 arr from (o3 _ (by have := HN2.out; omega)).trans HQ2a.out); have HW3 := Lib.hid (HW2a.out.trans (b3 w.heap.size (by have := HN2.out; omega))); clear k3 b3 o3)
    | (refine wp_loadG rfl _ rfl w2.heap.size rfl 24 arr HR3.out HS.out ?_)
    | (refine wp_loadG rfl _ rfl w.heap.size rfl 24 arr HQ3.out HS.out ?_))
  have HL3 := Lib.hid (show LkF w3 (none) arr x false from fun W hb => HL.out W (HW3.out.trans (hb.mono HW3.out.size)))
  refine bl_reg _ _ _ g w.heap.size (none) arr x false HS.out (HG.out.below HW3.out HG.out.lt) HQ3.out HL3 rfl rfl rfl ?_
  intro vals w4 hG h10 h11
  unfold IsV at h10 h11
  simp only [putD, Act.put, List.setIfInBounds_toArray, List.set_cons_zero, List.set_cons_succ, h10, h11]
  have HW4 := Lib.hid (HW3.out.trans (hG.mono HW3.out.size))
  have HQ4 := Lib.hid (HQ3.out.below hG HQ3.out.lt)
  clear h10 h11 hG HQ3 HR3 HL3 HL HQ2a HW2a HR2 HN2 HW2 HQ2
  have HG4 := Lib.hid (HG.out.below HW4.out HG.out.lt)
  have c0 := HG4.out.cell 0
  have HM4 := Lib.hid (HM.out.1.kept (Kept.of_below HW4.out (fun _ => False)) (fun _ _ f => f))
  have hlen := HM4.out.len
  obtain ⟨n, hn⟩ : ∃ n, n = ([] : Tb).length := ⟨_, rfl⟩
  rw [← hn] at hlen
  have hnl := True.intro
  have HNN := Lib.hid hn
  have HBW := Lib.hid (HW4.out.mono HBB.out)
  have HSZ := Lib.hid (Nat.le_trans HBB.out HW4.out.size)
  clear hn
  have q2 : decide ((64 : Int) ≤ (n : Int)) = false := by have := HNN.out; simp at this; subst this; rfl
  have z0 := HG4.out.free 0
  have l0 := HG4.out.lt
  have hvs : (w4.setCell ⟨g, 0, none⟩ (.map (some w4.heap.size))).heap.size = w4.heap.size := by simp [World.setCell]
  have HG5 := Lib.hid (show Bk ((w4.setCell ⟨g, 0, none⟩ (.map (some w4.heap.size))).alloc (.map #[] 0)) g 34 #[.map (some w4.heap.size)] from by
    have q := (HG4.out.set 0 (.map (some w4.heap.size))).alloc (.map #[] 0)
    simpa using q)
  have HQ5 := Lib.hid (show Bk ((w4.setCell ⟨g, 0, none⟩ (.map (some w4.heap.size))).alloc (.map #[] 0)) w.heap.size 24 arr from (HQ4.out.far (p := ⟨g, 0, none⟩) (by have := HG.out.lt; show w.heap.size ≠ g; omega) (.map (some w4.heap.size))).alloc (.map #[] 0))
  have HW5 := Lib.hid (show Below B w ((w4.setCell ⟨g, 0, none⟩ (.map (some w4.heap.size))).alloc (.map #[] 0)) from (HBW.out.setCell (p := ⟨g, 0, none⟩) HM.out.2.1 (.map (some w4.heap.size))).alloc (by rw [hvs]; exact HSZ.out) _)
  have HM5 := Lib.hid (show NmIs ((w4.setCell ⟨g, 0, none⟩ (.map (some w4.heap.size))).alloc (.map #[] 0)) w4.heap.size [] from by
    have q := NmIs.made (w4.setCell ⟨g, 0, none⟩ (.map (some w4.heap.size)))
    rw [hvs] at q
    exact q)
  clear hvs
  clear hnl
  have hmm := @run_makeMap Try.prog
  have heql : ∀ W, (binOp .eql 32 (.map none) (.map none)).run Try.prog W = .ok (.bool true) W := fun W => run_eql_map_nil W _ _ _ none Try.underlying32
  go_wp2_with fail
  refine bu_reg _ _ _ g w.heap.size w4.heap.size arr to HS.out HG5.out HQ5.out rfl rfl rfl rfl ?_
  intro vals w6 hG h58 h59 h60
  unfold IsV at h58 h59 h60
  simp only [putD, Act.put, List.setIfInBounds_toArray, List.set_cons_zero, List.set_cons_succ, h58, h59, h60]
  have HM6 := Lib.hid (HM5.out.below hG)
  have HG6 := Lib.hid (HG5.out.below hG HG5.out.lt)
  have HBZ := Lib.hid (show B ≤ w6.heap.size from Nat.le_trans HSZ.out (Nat.le_of_lt HM6.out.lt))
  have HW6 := Lib.hid (HW5.out.trans (hG.mono (Nat.le_trans HSZ.out (Nat.le_of_lt HM5.out.lt))))
  clear h58 h59 h60 hG heql hmm
  go_wp2_with (refine wp_putN rfl _ _ _ rfl rfl HM6.out (padNm bs) (by rw [nV, ← HA.out]; rfl) to rfl HK.out HTO.out (by decide) ?_; intro w7 hm7 hk7; have HM7 := Lib.hid (And.intro hm7 hk7); clear hm7 hk7)
  go_ret2
  have hb := HM7.out.2
  have hgm : g ≠ w4.heap.size := by have := HG4.out.lt; omega
  refine ⟨rfl, ⟨some w4.heap.size, hb.bk HG6.out (fun e => by injection e with e; exact hgm e.symm), HM7.out.1, HM.out.2.1, fun b e => by injection e with e; subst e; exact ⟨HSZ.out, fun e => hgm e.symm⟩⟩, ?_⟩
  exact HW6.out.trans (hb.below HBZ.out (fun c e => by injection e with e; subst e; exact HSZ.out))
theorem bind_b {B : Nat} {w : World} {g : Nat} {m : Tb} (b : Nat) (h1 : Bk w g 34 #[.map (some b)]) (h2 : NmO w (some b) m) (h3 : B ≤ g) (h4 : ∀ c, (some b) = some c → B ≤ c ∧ c ≠ g) (hB : B ≤ w.heap.size) (bs : Nm) (hgd : goodN bs) (to : Int) (ht : 1 ≤ to) (ht2 : to ≤ 9223372036854775807) (hm : m.length ≤ 100000) (x : Int) (hx : (vOf m (padNm bs)).getD 0 = x) (ho : (vOf m (padNm bs)).isSome = false) (hnl : m.length < 64) :
    Calls Try.prog 13 #[.pointer (some ⟨g, 0, none⟩), nV (padNm bs), .int .i64 to] w (BnP false B w g m (padNm bs) x to) := by
  have hk : nW (padNm bs) := padNm_w hgd.2.1
  have hl := h2.lkf hk
  rw [hx, ho] at hl
  have hs := nC_size hk
  have heq := eqN (padNm bs) (padNm bs) hk hk
  rw [show decide (padNm bs = padNm bs) = true from by simp] at heq
  have HM := Lib.hid (And.intro h2 h3)
  have HBG := Lib.hid (h4 b rfl)
  have HK := Lib.hid hk
  have HST := Lib.hid (fun W => string_c W (padNm bs) hk)
  have HFX := Lib.hid (fun W => fix_ok bs W hgd)
  rw [good_cut hgd] at HST
  have HONE := Lib.hid (nC_one (padNm bs))
  have HTO := Lib.hid (wfI (n := to) (by omega) ht2)
  have HLEN := Lib.hid hm
  unfold nV at HST HFX ⊢
  obtain ⟨arr, harr⟩ : ∃ arr, arr = nC (padNm bs) := ⟨_, rfl⟩
  obtain ⟨st, hst⟩ : ∃ st, st = strB bs := ⟨_, rfl⟩
  rw [← harr] at hl hs HONE HST HFX heq ⊢
  rw [← hst] at HST HFX
  have HA := Lib.hid harr
  have HL := Lib.hid hl
  have HG := Lib.hid h1
  have HS := Lib.hid hs
  have HBB := Lib.hid hB
  obtain ⟨za, hza⟩ : ∃ za, za = nC zN := ⟨_, rfl⟩
  have hzero := zeroN
  rw [← hza] at hzero
  have HZS := Lib.hid (show za.size = 32 from by rw [hza]; exact nC_size zN_w)
  have q1 : decide (to < 1) = false := by simp; omega
  clear hl hs harr hst h1 h2 h3 h4 hx ho hk hB hza hgd ht ht2 hm
  have HQ := Lib.hid (Bk.new w 24 arr)
  have HW := Lib.hid (Gw.alloc w (.cells arr 24))
  go_enter Try.func13, Try.ntmps13
  go_wp2_with (refine wp_loadG rfl _ rfl w.heap.size rfl 24 arr HQ.out HS.out ?_)
  refine Calls.mono (HST.out _) ?_
  rintro e w1 ⟨rfl, b1⟩
  have HQ1 := Lib.hid (HQ.out.below b1 HQ.out.lt)
  have HW1 := Lib.hid (HW.out.trans (b1.mono (by simp)))
  clear b1 HQ HW HST
  go_wp2_with fail
  refine Calls.mono (HFX.out _) ?_
  rintro e w2 ⟨rfl, b2⟩
  have HQ2 := Lib.hid (HQ1.out.below b2 HQ1.out.lt)
  have HW2 := Lib.hid (HW1.out.trans (b2.mono HW1.out.size))
  have HN2 := Lib.hid (show w.heap.size < w2.heap.size from Nat.lt_of_lt_of_le HQ1.out.lt b2.size)
  clear b2 HQ1 HW1 HFX
  have HR2 := Lib.hid (Bk.new w2 24 za)
  have HQ2a := Lib.hid (HQ2.out.alloc (.cells za 24))
  have HW2a := Lib.hid (HW2.out.trans ((Gw.alloc w2 (.cells za 24)).mono HW2.out.size))
  go_wp2_with (first
    | (refine wp_storeN rfl _ _ rfl w2.heap.size arr rfl rfl 24 za HR2.out HS.out HZS.out HONE.out ?_; intro w3 k3 b3 o3; have HR3 := Lib.hid k3; have HQ3 := Lib.hid (show Bk w3 w.heap.size 24 arr from (o3 _ (by have := HN2.out; omega)).trans HQ2a.out); have HW3 := Lib.hid (HW2a.out.trans (b3 w.heap.size (by have := HN2.out; omega))); clear k3 b3 o3)
    | (refine wp_loadG rfl _ rfl w2.heap.size rfl 24 arr HR3.out HS.out ?_)
    | (refine wp_loadG rfl _ rfl w.heap.size rfl 24 arr HQ3.out HS.out ?_))
  have HL3 := Lib.hid (show LkF w3 ((some b)) arr x false from fun W hb => HL.out W (HW3.out.trans (hb.mono HW3.out.size)))
  refine bl_reg _ _ _ g w.heap.size ((some b)) arr x false HS.out (HG.out.below HW3.out HG.out.lt) HQ3.out HL3 rfl rfl rfl ?_
  intro vals w4 hG h10 h11
  unfold IsV at h10 h11
  simp only [putD, Act.put, List.setIfInBounds_toArray, List.set_cons_zero, List.set_cons_succ, h10, h11]
  have HW4 := Lib.hid (HW3.out.trans (hG.mono HW3.out.size))
  have HQ4 := Lib.hid (HQ3.out.below hG HQ3.out.lt)
  clear h10 h11 hG HQ3 HR3 HL3 HL HQ2a HW2a HR2 HN2 HW2 HQ2
  have HG4 := Lib.hid (HG.out.below HW4.out HG.out.lt)
  have c0 := HG4.out.cell 0
  have HM4 := Lib.hid (HM.out.1.kept (Kept.of_below HW4.out (fun _ => False)) (fun _ _ f => f))
  have hlen := HM4.out.len
  obtain ⟨n, hn⟩ : ∃ n, n = (m : Tb).length := ⟨_, rfl⟩
  rw [← hn] at hlen hnl
  have HNN := Lib.hid hn
  have HBW := Lib.hid (HW4.out.mono HBB.out)
  have HSZ := Lib.hid (Nat.le_trans HBB.out HW4.out.size)
  clear hn
  have q2 : decide ((64 : Int) ≤ (n : Int)) = false := by simp; omega
  clear hnl
  have heql : ∀ W, (binOp .eql 32 (.map (some b)) (.map none)).run Try.prog W = .ok (.bool false) W := fun W => run_eql_map_nil W _ _ _ (some b) Try.underlying32
  go_wp2_with fail
  refine bu_reg _ _ _ g w.heap.size b arr to HS.out HG4.out HQ4.out rfl rfl rfl rfl ?_
  intro vals w6 hG h58 h59 h60
  unfold IsV at h58 h59 h60
  simp only [putD, Act.put, List.setIfInBounds_toArray, List.set_cons_zero, List.set_cons_succ, h58, h59, h60]
  have HM6 := Lib.hid (show NmIs w6 b m from NmIs.below HM4.out hG)
  have HG6 := Lib.hid (HG4.out.below hG HG4.out.lt)
  have HBZ := Lib.hid (Nat.le_trans HSZ.out hG.size)
  have HW6 := Lib.hid (HBW.out.trans (hG.mono HSZ.out))
  clear h58 h59 h60 hG heql
  go_wp2_with (refine wp_putN rfl _ _ _ rfl rfl HM6.out (padNm bs) (by rw [nV, ← HA.out]; rfl) to rfl HK.out HTO.out (by have := HLEN.out; omega) ?_; intro w7 hm7 hk7; have HM7 := Lib.hid (And.intro hm7 hk7); clear hm7 hk7)
  go_ret2
  have hb := HM7.out.2
  refine ⟨rfl, ⟨some b, hb.bk HG6.out (fun e => HBG.out.2 (by injection e)), HM7.out.1, HM.out.2, fun c e => by injection e with e; subst e; exact HBG.out⟩, ?_⟩
  exact HW6.out.trans (hb.below HBZ.out (fun c e => by injection e with e; subst e; exact HBG.out.1))
theorem bind_d {B : Nat} {w : World} {g : Nat} {m : Tb} (b : Nat) (h1 : Bk w g 34 #[.map (some b)]) (h2 : NmO w (some b) m) (h3 : B ≤ g) (h4 : ∀ c, (some b) = some c → B ≤ c ∧ c ≠ g) (hB : B ≤ w.heap.size) (bs : Nm) (hgd : goodN bs) (to : Int) (ht : 1 ≤ to) (ht2 : to ≤ 9223372036854775807) (hm : m.length ≤ 100000) (x : Int) (hx : (vOf m (padNm bs)).getD 0 = x) (ho : (vOf m (padNm bs)).isSome = true) :
    Calls Try.prog 13 #[.pointer (some ⟨g, 0, none⟩), nV (padNm bs), .int .i64 to] w (BnP false B w g m (padNm bs) x to) := by
  have hk : nW (padNm bs) := padNm_w hgd.2.1
  have hl := h2.lkf hk
  rw [hx, ho] at hl
  have hs := nC_size hk
  have heq := eqN (padNm bs) (padNm bs) hk hk
  rw [show decide (padNm bs = padNm bs) = true from by simp] at heq
  have HM := Lib.hid (And.intro h2 h3)
  have HBG := Lib.hid (h4 b rfl)
  have HK := Lib.hid hk
  have HST := Lib.hid (fun W => string_c W (padNm bs) hk)
  have HFX := Lib.hid (fun W => fix_ok bs W hgd)
  rw [good_cut hgd] at HST
  have HONE := Lib.hid (nC_one (padNm bs))
  have HTO := Lib.hid (wfI (n := to) (by omega) ht2)
  have HLEN := Lib.hid hm
  unfold nV at HST HFX ⊢
  obtain ⟨arr, harr⟩ : ∃ arr, arr = nC (padNm bs) := ⟨_, rfl⟩
  obtain ⟨st, hst⟩ : ∃ st, st = strB bs := ⟨_, rfl⟩
  rw [← harr] at hl hs HONE HST HFX heq ⊢
  rw [← hst] at HST HFX
  have HA := Lib.hid harr
  have HL := Lib.hid hl
  have HG := Lib.hid h1
  have HS := Lib.hid hs
  have HBB := Lib.hid hB
  obtain ⟨za, hza⟩ : ∃ za, za = nC zN := ⟨_, rfl⟩
  have hzero := zeroN
  rw [← hza] at hzero
  have HZS := Lib.hid (show za.size = 32 from by rw [hza]; exact nC_size zN_w)
  have q1 : decide (to < 1) = false := by simp; omega
  clear hl hs harr hst h1 h2 h3 h4 hx ho hk hB hza hgd ht ht2 hm
  have HQ := Lib.hid (Bk.new w 24 arr)
  have HW := Lib.hid (Gw.alloc w (.cells arr 24))
  go_enter Try.func13, Try.ntmps13
  go_wp2_with (refine wp_loadG rfl _ rfl w.heap.size rfl 24 arr HQ.out HS.out ?_)
  refine Calls.mono (HST.out _) ?_
  rintro e w1 ⟨rfl, b1⟩
  have HQ1 := Lib.hid (HQ.out.below b1 HQ.out.lt)
  have HW1 := Lib.hid (HW.out.trans (b1.mono (by simp)))
  clear b1 HQ HW HST
  go_wp2_with fail
  refine Calls.mono (HFX.out _) ?_
  rintro e w2 ⟨rfl, b2⟩
  have HQ2 := Lib.hid (HQ1.out.below b2 HQ1.out.lt)
  have HW2 := Lib.hid (HW1.out.trans (b2.mono HW1.out.size))
  have HN2 := Lib.hid (show w.heap.size < w2.heap.size from Nat.lt_of_lt_of_le HQ1.out.lt b2.size)
  clear b2 HQ1 HW1 HFX
  have HR2 := Lib.hid (Bk.new w2 24 za)
  have HQ2a := Lib.hid (HQ2.out.alloc (.cells za 24))
  have HW2a := Lib.hid (HW2.out.trans ((Gw.alloc w2 (.cells za 24)).mono HW2.out.size))
  go_wp2_with (first
    | (refine wp_storeN rfl _ _ rfl w2.heap.size arr rfl rfl 24 za HR2.out HS.out HZS.out HONE.out ?_; intro w3 k3 b3 o3; have HR3 := Lib.hid k3; have HQ3 := Lib.hid (show Bk w3 w.heap.size 24 arr from (o3 _ (by have := HN2.out; omega)).trans HQ2a.out); have HW3 := Lib.hid (HW2a.out.trans (b3 w.heap.size (by have := HN2.out; omega))); clear k3 b3 o3)
    | (refine wp_loadG rfl _ rfl w2.heap.size rfl 24 arr HR3.out HS.out ?_)
    | (refine wp_loadG rfl _ rfl w.heap.size rfl 24 arr HQ3.out HS.out ?_))
  have HL3 := Lib.hid (show LkF w3 ((some b)) arr x true from fun W hb => HL.out W (HW3.out.trans (hb.mono HW3.out.size)))
  refine bl_reg _ _ _ g w.heap.size ((some b)) arr x true HS.out (HG.out.below HW3.out HG.out.lt) HQ3.out HL3 rfl rfl rfl ?_
  intro vals w4 hG h10 h11
  unfold IsV at h10 h11
  simp only [putD, Act.put, List.setIfInBounds_toArray, List.set_cons_zero, List.set_cons_succ, h10, h11]
  have HW4 := Lib.hid (HW3.out.trans (hG.mono HW3.out.size))
  have HQ4 := Lib.hid (HQ3.out.below hG HQ3.out.lt)
  clear h10 h11 hG HQ3 HR3 HL3 HL HQ2a HW2a HR2 HN2 HW2 HQ2
  have HG4 := Lib.hid (HG.out.below HW4.out HG.out.lt)
  have c0 := HG4.out.cell 0
  have HM4 := Lib.hid (HM.out.1.kept (Kept.of_below HW4.out (fun _ => False)) (fun _ _ f => f))
  have hlen := HM4.out.len
  obtain ⟨n, hn⟩ : ∃ n, n = (m : Tb).length := ⟨_, rfl⟩
  rw [← hn] at hlen
  have hnl := True.intro
  have HNN := Lib.hid hn
  have HBW := Lib.hid (HW4.out.mono HBB.out)
  have HSZ := Lib.hid (Nat.le_trans HBB.out HW4.out.size)
  clear hn
  clear hnl
  have heql : ∀ W, (binOp .eql 32 (.map (some b)) (.map none)).run Try.prog W = .ok (.bool false) W := fun W => run_eql_map_nil W _ _ _ (some b) Try.underlying32
  go_wp2_with fail
  refine bu_reg _ _ _ g w.heap.size b arr to HS.out HG4.out HQ4.out rfl rfl rfl rfl ?_
  intro vals w6 hG h58 h59 h60
  unfold IsV at h58 h59 h60
  simp only [putD, Act.put, List.setIfInBounds_toArray, List.set_cons_zero, List.set_cons_succ, h58, h59, h60]
  have HM6 := Lib.hid (show NmIs w6 b m from NmIs.below HM4.out hG)
  have HG6 := Lib.hid (HG4.out.below hG HG4.out.lt)
  have HBZ := Lib.hid (Nat.le_trans HSZ.out hG.size)
  have HW6 := Lib.hid (HBW.out.trans (hG.mono HSZ.out))
  clear h58 h59 h60 hG heql
  go_wp2_with (refine wp_putN rfl _ _ _ rfl rfl HM6.out (padNm bs) (by rw [nV, ← HA.out]; rfl) to rfl HK.out HTO.out (by have := HLEN.out; omega) ?_; intro w7 hm7 hk7; have HM7 := Lib.hid (And.intro hm7 hk7); clear hm7 hk7)
  go_ret2
  have hb := HM7.out.2
  refine ⟨rfl, ⟨some b, hb.bk HG6.out (fun e => HBG.out.2 (by injection e)), HM7.out.1, HM.out.2, fun c e => by injection e with e; subst e; exact HBG.out⟩, ?_⟩
  exact HW6.out.trans (hb.below HBZ.out (fun c e => by injection e with e; subst e; exact HBG.out.1))
theorem bind_f {B : Nat} {w : World} {g : Nat} {m : Tb} (mb : Option Nat) (h1 : Bk w g 34 #[.map mb]) (h2 : NmO w mb m) (h3 : B ≤ g) (h4 : ∀ c, mb = some c → B ≤ c ∧ c ≠ g) (hB : B ≤ w.heap.size) (bs : Nm) (hgd : goodN bs) (to : Int) (ht : 1 ≤ to) (ht2 : to ≤ 9223372036854775807) (hm : m.length ≤ 100000) (x : Int) (hx : (vOf m (padNm bs)).getD 0 = x) (ho : (vOf m (padNm bs)).isSome = false) (hnl : 64 ≤ m.length) :
    Calls Try.prog 13 #[.pointer (some ⟨g, 0, none⟩), nV (padNm bs), .int .i64 to] w (BnP true B w g m (padNm bs) x to) := by
  have hk : nW (padNm bs) := padNm_w hgd.2.1
  have hl := h2.lkf hk
  rw [hx, ho] at hl
  have hs := nC_size hk
  have heq := eqN (padNm bs) (padNm bs) hk hk
  rw [show decide (padNm bs = padNm bs) = true from by simp] at heq
  have HM := Lib.hid (And.intro h2 (And.intro h3 h4))
  have HK := Lib.hid hk
  have HST := Lib.hid (fun W => string_c W (padNm bs) hk)
  have HFX := Lib.hid (fun W => fix_ok bs W hgd)
  rw [good_cut hgd] at HST
  have HONE := Lib.hid (nC_one (padNm bs))
  have HTO := Lib.hid (wfI (n := to) (by omega) ht2)
  have HLEN := Lib.hid hm
  unfold nV at HST HFX ⊢
  obtain ⟨arr, harr⟩ : ∃ arr, arr = nC (padNm bs) := ⟨_, rfl⟩
  obtain ⟨st, hst⟩ : ∃ st, st = strB bs := ⟨_, rfl⟩
  rw [← harr] at hl hs HONE HST HFX heq ⊢
  rw [← hst] at HST HFX
  have HA := Lib.hid harr
  have HL := Lib.hid hl
  have HG := Lib.hid h1
  have HS := Lib.hid hs
  have HBB := Lib.hid hB
  obtain ⟨za, hza⟩ : ∃ za, za = nC zN := ⟨_, rfl⟩
  have hzero := zeroN
  rw [← hza] at hzero
  have HZS := Lib.hid (show za.size = 32 from by rw [hza]; exact nC_size zN_w)
  have q1 : decide (to < 1) = false := by simp; omega
  clear hl hs harr hst h1 h2 h3 h4 hx ho hk hB hza hgd ht ht2 hm
  have HQ := Lib.hid (Bk.new w 24 arr)
  have HW := Lib.hid (Gw.alloc w (.cells arr 24))
  go_enter Try.func13, Try.ntmps13
  go_wp2_with (refine wp_loadG rfl _ rfl w.heap.size rfl 24 arr HQ.out HS.out ?_)
  refine Calls.mono (HST.out _) ?_
  rintro e w1 ⟨rfl, b1⟩
  have HQ1 := Lib.hid (HQ.out.below b1 HQ.out.lt)
  have HW1 := Lib.hid (HW.out.trans (b1.mono (by simp)))
  clear b1 HQ HW HST
  go_wp2_with fail
  refine Calls.mono (HFX.out _) ?_
  rintro e w2 ⟨rfl, b2⟩
  have HQ2 := Lib.hid (HQ1.out.below b2 HQ1.out.lt)
  have HW2 := Lib.hid (HW1.out.trans (b2.mono HW1.out.size))
  have HN2 := Lib.hid (show w.heap.size < w2.heap.size from Nat.lt_of_lt_of_le HQ1.out.lt b2.size)
  clear b2 HQ1 HW1 HFX
  have HR2 := Lib.hid (Bk.new w2 24 za)
  have HQ2a := Lib.hid (HQ2.out.alloc (.cells za 24))
  have HW2a := Lib.hid (HW2.out.trans ((Gw.alloc w2 (.cells za 24)).mono HW2.out.size))
  go_wp2_with (first
    | (refine wp_storeN rfl _ _ rfl w2.heap.size arr rfl rfl 24 za HR2.out HS.out HZS.out HONE.out ?_; intro w3 k3 b3 o3; have HR3 := Lib.hid k3; have HQ3 := Lib.hid (show Bk w3 w.heap.size 24 arr from (o3 _ (by have := HN2.out; omega)).trans HQ2a.out); have HW3 := Lib.hid (HW2a.out.trans (b3 w.heap.size (by have := HN2.out; omega))); clear k3 b3 o3)
    | (refine wp_loadG rfl _ rfl w2.heap.size rfl 24 arr HR3.out HS.out ?_)
    | (refine wp_loadG rfl _ rfl w.heap.size rfl 24 arr HQ3.out HS.out ?_))
  have HL3 := Lib.hid (show LkF w3 (mb) arr x false from fun W hb => HL.out W (HW3.out.trans (hb.mono HW3.out.size)))
  refine bl_reg _ _ _ g w.heap.size (mb) arr x false HS.out (HG.out.below HW3.out HG.out.lt) HQ3.out HL3 rfl rfl rfl ?_
  intro vals w4 hG h10 h11
  unfold IsV at h10 h11
  simp only [putD, Act.put, List.setIfInBounds_toArray, List.set_cons_zero, List.set_cons_succ, h10, h11]
  have HW4 := Lib.hid (HW3.out.trans (hG.mono HW3.out.size))
  have HQ4 := Lib.hid (HQ3.out.below hG HQ3.out.lt)
  clear h10 h11 hG HQ3 HR3 HL3 HL HQ2a HW2a HR2 HN2 HW2 HQ2
  have HG4 := Lib.hid (HG.out.below HW4.out HG.out.lt)
  have c0 := HG4.out.cell 0
  have HM4 := Lib.hid (HM.out.1.kept (Kept.of_below HW4.out (fun _ => False)) (fun _ _ f => f))
  have hlen := HM4.out.len
  obtain ⟨n, hn⟩ : ∃ n, n = (m : Tb).length := ⟨_, rfl⟩
  rw [← hn] at hlen hnl
  have HNN := Lib.hid hn
  have HBW := Lib.hid (HW4.out.mono HBB.out)
  have HSZ := Lib.hid (Nat.le_trans HBB.out HW4.out.size)
  clear hn
  have q2 : decide ((64 : Int) ≤ (n : Int)) = true := by simp; omega
  clear hnl
  go_wp2_with fail
  go_ret2
  exact ⟨rfl, ⟨mb, HG4.out, HM4.out, HM.out.2⟩, HBW.out⟩
/-- Bind of a name that may be. -/
theorem bind_ok {B : Nat} {w : World} {g : Nat} {m : Tb} (h : TbX B w g m) (hB : B ≤ w.heap.size) (bs : Nm) (hgd : goodN bs) (to : Int) (ht : 1 ≤ to) (ht2 : to ≤ 9223372036854775807) (hm : m.length ≤ 100000) (hf : (vOf m (padNm bs)).isSome = true ∨ m.length < 64) :
    Calls Try.prog 13 #[.pointer (some ⟨g, 0, none⟩), nV (padNm bs), .int .i64 to] w (TbP B w g (setN m (padNm bs) to) (.tuple #[.int .i64 ((vOf m (padNm bs)).getD 0), .int .i64 0])) := by
  obtain ⟨mb, h1, h2, h3, h4⟩ := h
  cases ho : (vOf m (padNm bs)).isSome with
  | true =>
    cases mb with
    | none =>
      have e : m = [] := h2
      subst e
      cases ho
    | some b => exact bind_d b h1 h2 h3 h4 hB bs hgd to ht ht2 hm _ rfl ho
  | false =>
    have hlt : m.length < 64 := by
      rcases hf with e | e
      · rw [ho] at e; cases e
      · exact e
    cases mb with
    | none =>
      have e : m = [] := h2
      subst e
      exact bind_a h1 h2 h3 h4 hB bs hgd to ht ht2 hm _ rfl ho
    | some b => exact bind_b b h1 h2 h3 h4 hB bs hgd to ht ht2 hm _ rfl ho hlt
theorem bind_full {B : Nat} {w : World} {g : Nat} {m : Tb} (h : TbX B w g m) (hB : B ≤ w.heap.size) (bs : Nm) (hgd : goodN bs) (to : Int) (ht : 1 ≤ to) (ht2 : to ≤ 9223372036854775807) (hm : m.length ≤ 100000) (ho : (vOf m (padNm bs)).isSome = false) (hl : 64 ≤ m.length) :
    Calls Try.prog 13 #[.pointer (some ⟨g, 0, none⟩), nV (padNm bs), .int .i64 to] w (TbP B w g m (.tuple #[.int .i64 0, .int .i64 6])) := by
  obtain ⟨mb, h1, h2, h3, h4⟩ := h
  exact bind_f mb h1 h2 h3 h4 hB bs hgd to ht ht2 hm _ rfl ho hl
end Go.Proofs.Ytdfhdgdhhgabbaa
