/- The law TableFull of layer 19 returns true for every argument. No conditions. -/
import Derived.Test.YtdfhdgdhhgabbaaLawT1
namespace Go.Proofs.Ytdfhdgdhhgabbaa
set_option linter.unusedVariables false
set_option linter.unusedSimpArgs false
open Go.RowKit Go.Maps
set_option maxHeartbeats 4000000
set_option maxRecDepth 100000
def nmT (k : Nat) : Nm := [110#8, BitVec.ofNat 8 (97 + k / 10), BitVec.ofNat 8 (48 + k % 10)]
theorem nmT_good : ∀ k, k < 72 → goodN (nmT k) := by decide +kernel
theorem nmT_inj : ∀ i, i < 72 → ∀ j, j < 72 → nmT i = nmT j → i = j := by decide +kernel
theorem nmT_1 (k : Nat) (h : k < 72) : U8 (BitVec.ofNat 8 (97 + k / 10)) = 97 + (k : Int) / 10 := by
  unfold U8; rw [BitVec.toNat_ofNat]; omega
theorem nmT_2 (k : Nat) (h : k < 72) : U8 (BitVec.ofNat 8 (48 + k % 10)) = 48 + (k : Int) % 10 := by
  unfold U8; rw [BitVec.toNat_ofNat]; omega
theorem padT_inj {i j : Nat} (hi : i < 72) (hj : j < 72) (h : padN (nmT i) = padN (nmT j)) : i = j :=
  nmT_inj i hi j hj (by rw [← good_cut (nmT_good i hi), ← good_cut (nmT_good j hj), h])
def tabF (k : Nat) : Tb := (List.range (min k 64)).map fun i => (padN (nmT i), ((i : Int) + 1))
theorem tabF_len (k : Nat) : (tabF k).length = min k 64 := by simp [tabF]
theorem tabF_keys (k : Nat) : (tabF k).map Prod.fst = (List.range (min k 64)).map fun i => padN (nmT i) := by simp [tabF]
theorem tabF_none (k j : Nat) (h : min k 64 ≤ j) (hj : j < 72) : vOf (tabF k) (padN (nmT j)) = none := by
  cases e : vOf (tabF k) (padN (nmT j)) with
  | none => rfl
  | some v =>
    have h1 := (vOf_mem (k := padN (nmT j)) (tabF k)).1 (by rw [e]; rfl)
    rw [tabF_keys] at h1
    obtain ⟨i, hi, he⟩ := List.mem_map.1 h1
    have hi := List.mem_range.1 hi
    have := padT_inj (by omega) hj he
    omega
theorem set_new {k : Nm} {v : Int} : ∀ m : Tb, vOf m k = none → setN m k v = m ++ [(k, v)]
  | [], _ => rfl
  | p :: m, h => by
    unfold vOf at h
    split at h
    · cases h
    · rename_i hne
      unfold setN
      rw [if_neg hne, set_new m h]
      rfl
theorem tabF_succ (k : Nat) (h : k < 64) : setN (tabF k) (padN (nmT k)) ((k : Int) + 1) = tabF (k + 1) := by
  rw [set_new _ (tabF_none k k (by omega) (by omega))]
  unfold tabF
  rw [Nat.min_eq_left (by omega), Nat.min_eq_left (by omega), List.range_succ, List.map_append]
  rfl
theorem tabF_more (k : Nat) (h : 64 ≤ k) : tabF k = tabF 64 := by
  unfold tabF; rw [Nat.min_eq_right h, Nat.min_self]
theorem tabF_0 : vOf (tabF 64) (padN (nmT 0)) = some 1 := by
  unfold tabF
  rw [Nat.min_self, show List.range 64 = 0 :: (List.range 63).map (· + 1) from by decide]
  show vOf ((padN (nmT 0), ((0 : Nat) : Int) + 1) :: _) _ = _
  unfold vOf
  rw [if_pos rfl]
  rfl
theorem n_app (x y : BitVec 8) : (⟨#[110]⟩ : ByteArray) ++ strB [x, y] = strB [110#8, x, y] := by
  apply ByteArray.ext
  simp [strB, strL]
  try rfl
theorem full_walk (w : World) (x : Int) (wx : (Lit.int .u8 x).wf = true) : Calls Try.prog 5 #[.int .u8 x] w (TruP (.bool true) w) := by
  have hx : 0 ≤ x ∧ x ≤ 255 := by simpa [Lit.wf, IntKind.min, IntKind.max, IntKind.signed, IntKind.bits] using wx
  obtain ⟨hx1, hx2⟩ := hx
  obtain ⟨za, hza⟩ : ∃ za, za = nC zN := ⟨_, rfl⟩
  have hzero := zeroN
  rw [← hza] at hzero
  have HZS := Lib.hid (show za.size = 32 from by rw [hza]; exact nC_size zN_w)
  clear hza wx
  go_enter Try.func5, Try.ntmps5
  go_wp2_with fail
  refine Calls.mono (known19_c _) ?_
  rintro e w1 ⟨rfl, b1⟩
  obtain ⟨W2, hW2⟩ : ∃ W, W = w1.alloc (.cells #[.map none] 34) := ⟨_, rfl⟩
  obtain ⟨g, hg⟩ : ∃ g, g = w1.heap.size := ⟨_, rfl⟩
  have HT := Lib.hid (show TbX g W2 g [] from by rw [hW2, hg]; exact TbX.new w1)
  have HB := Lib.hid (show Below w.heap.size w W2 ∧ w.heap.size ≤ g ∧ g < W2.heap.size from by rw [hW2, hg]; exact ⟨b1.alloc b1.size _, b1.size, by simp⟩)
  have HW2 := Lib.hid hW2
  have HG := Lib.hid hg
  clear b1 hW2 hg
  go_wp2_with fail
  rw [← HW2.out, ← HG.out]
  go_loopw [4] (fun i wr => ∃ k : Nat, (k : Int) ≤ 64 + x % 8 ∧ i = .int .i64 k ∧ TbX g wr g (tabF k) ∧ Below w.heap.size w wr) (fun i _ => 100 - (Go.RowKit.intOf i).toNat)
  case atStart => exact ⟨0, by omega, rfl, HT.out, HB.out.1⟩
  case round =>
    obtain ⟨k, hk, rfl, ht, hB⟩ := hrel
    have HH := Lib.hid (And.intro ht hB)
    clear ht hB HT
    by_cases hlt : (k : Int) < 64 + x % 8
    · have p1 : (0 : Int) ≤ (k : Int) := by omega
      have p2 : (k : Int) ≤ 71 := by omega
      have q1 : decide ((k : Int) < 64 + x % 8) = true := by simpa using hlt
      have hgd := nmT_good k (by omega)
      obtain ⟨arr, harr⟩ : ∃ arr, arr = nC (padN (nmT k)) := ⟨_, rfl⟩
      have HAS := Lib.hid (show arr.size = 32 from by rw [harr]; exact nC_size (padN_w hgd.2.1))
      have HAO := Lib.hid (show arr.all (·.oneCell') = true from by rw [harr]; exact nC_one _)
      obtain ⟨s2, hs2⟩ : ∃ s, s = strB [BitVec.ofNat 8 (97 + k / 10), BitVec.ofNat 8 (48 + k % 10)] := ⟨_, rfl⟩
      have hsz : s2.size = 2 := by rw [hs2]; rfl
      have HF := Lib.hid (show ∀ W, Calls Try.prog 8 #[.string ((⟨#[110]⟩ : ByteArray) ++ s2)] W (RetP (.tuple #[.agg arr, .int .i64 0]) W) from fun W => by
        have := fix_ok (nmT k) W hgd
        rw [nV, ← harr] at this
        rw [hs2, n_app]
        exact this)
      have hcv : ∀ W : World, (convert 52 9 (.slice (some ⟨W.heap.size, 0, none⟩) 2 2)).run Try.prog (W.alloc (.cells #[.int .u8 (97 + (k : Int) / 10), .int .u8 (48 + (k : Int) % 10)] 5)) = .ok (.string s2) (W.alloc (.cells #[.int .u8 (97 + (k : Int) / 10), .int .u8 (48 + (k : Int) % 10)] 5)) := fun W => by
        rw [← nmT_1 k (by omega), ← nmT_2 k (by omega), hs2]
        exact str_conv [BitVec.ofNat 8 (97 + k / 10), BitVec.ofNat 8 (48 + k % 10)] (some ⟨W.heap.size, 0, none⟩) 2 (W.heap.size + 1) _ ((Bk.new W 5 #[.int .u8 (U8 (BitVec.ofNat 8 (97 + k / 10))), .int .u8 (U8 (BitVec.ofNat 8 (48 + k % 10)))]).rd rfl (by omega))
      have HAR := Lib.hid harr
      have HGD := Lib.hid hgd
      have HLT := Lib.hid hlt
      clear hgd harr hs2 hlt
      go_wp2_with fail
      refine Calls.mono (HF.out _) ?_
      rintro e w3 ⟨rfl, b3⟩
      have b3' := (Gw.alloc wr (.cells #[.int .u8 (97 + (k : Int) / 10), .int .u8 (48 + (k : Int) % 10)] 5)).trans (b3.mono (by simp))
      have HT3 := Lib.hid (HH.out.1.below b3')
      have HB3 := Lib.hid (HH.out.2.trans (b3'.mono HH.out.2.size))
      have HN3 := Lib.hid (Bk.new w3 24 za)
      have HW3 := Lib.hid (Gw.alloc w3 (.cells za 24))
      clear b3 b3' hcv hsz HH HF
      go_wp2_with (first
        | (refine wp_storeN rfl _ _ rfl w3.heap.size arr rfl rfl 24 za HN3.out HAS.out HZS.out HAO.out ?_; intro w4 k4 b4 o4; have HK4 := Lib.hid k4; have b4' := HW3.out.trans (b4 w3.heap.size (Nat.le_refl _)); have HT4 := Lib.hid (HT3.out.below b4'); have HB4 := Lib.hid (HB3.out.trans (b4'.mono HB3.out.size)); clear k4 b4 o4 b4')
        | (refine wp_loadG rfl _ rfl w3.heap.size rfl 24 arr HK4.out HAS.out ?_))
      by_cases h64 : k < 64
      · have HBI := Lib.hid (bind_ok HT4.out (Nat.le_of_lt HT4.out.lt) (nmT k) HGD.out ((k : Int) + 1) (by omega) (by omega) (by rw [tabF_len]; omega) (.inr (by rw [tabF_len]; omega)))
        rw [tabF_succ k h64, tabF_none k k (by omega) (by omega), nV, ← HAR.out] at HBI
        have q2 : decide ((k : Int) < 64) = true := by simp; omega
        have q3 : decide ((64 : Int) ≤ (k : Int)) = false := by simp; omega
        clear h64
        refine Calls.mono HBI.out ?_
        rintro e w5 ⟨rfl, t5, b5⟩
        have HH5 := Lib.hid (And.intro t5 (HB4.out.trans (b5.mono HB.out.2.1)))
        clear t5 b5 HBI
        go_wp2_with fail
        go_roundw
        case rel => exact ⟨k + 1, by have := HLT.out; omega, by go_num, HH5.out.1, HH5.out.2⟩
        case measure => (first | (simp [Go.RowKit.intOf]; done) | (simp [Go.RowKit.intOf]; omega))
      · have HBI := Lib.hid (bind_full HT4.out (Nat.le_of_lt HT4.out.lt) (nmT k) HGD.out ((k : Int) + 1) (by omega) (by omega) (by rw [tabF_len]; omega) (by rw [tabF_none k k (by omega) (by omega)]; rfl) (by rw [tabF_len]; omega))
        rw [tabF_more k (by omega), nV, ← HAR.out] at HBI
        have q2 : decide ((k : Int) < 64) = false := by simp; omega
        have q3 : decide ((64 : Int) ≤ (k : Int)) = true := by simp; omega
        have HK64 := Lib.hid (show 64 ≤ k from by omega)
        clear h64
        refine Calls.mono HBI.out ?_
        rintro e w5 ⟨rfl, t5, b5⟩
        have HH5 := Lib.hid (show TbX g w5 g (tabF (k + 1)) ∧ Below w.heap.size w w5 from ⟨by rw [tabF_more (k + 1) (by have := HK64.out; omega)]; exact t5, HB4.out.trans (b5.mono HB.out.2.1)⟩)
        clear t5 b5 HBI
        go_wp2_with fail
        go_roundw
        case rel => exact ⟨k + 1, by have := HLT.out; omega, by go_num, HH5.out.1, HH5.out.2⟩
        case measure => (first | (simp [Go.RowKit.intOf]; done) | (simp [Go.RowKit.intOf]; omega))
    · have q1 : decide ((k : Int) < 64 + x % 8) = false := by simpa using hlt
      have ht := HH.out.1
      rw [tabF_more k (by omega)] at ht
      have HT1 := Lib.hid ht
      have hgd := nmT_good 0 (by omega)
      obtain ⟨arr, harr⟩ : ∃ arr, arr = nC (padN (nmT 0)) := ⟨_, rfl⟩
      have HAS := Lib.hid (show arr.size = 32 from by rw [harr]; exact nC_size (padN_w hgd.2.1))
      have HAO := Lib.hid (show arr.all (·.oneCell') = true from by rw [harr]; exact nC_one _)
      have HF := Lib.hid (show ∀ W, Calls Try.prog 8 #[.string ⟨#[110, 97, 48]⟩] W (RetP (.tuple #[.agg arr, .int .i64 0]) W) from fun W => by
        have := fix_ok (nmT 0) W hgd
        rw [nV, ← harr] at this
        exact this)
      have HAR := Lib.hid harr
      have HGD := Lib.hid hgd
      clear hgd harr ht hlt
      go_wp2_with fail
      refine Calls.mono (HF.out _) ?_
      rintro e w3 ⟨rfl, b3⟩
      have HT3 := Lib.hid (HT1.out.below b3)
      have HB3 := Lib.hid (HH.out.2.trans (b3.mono HH.out.2.size))
      have HN3 := Lib.hid (Bk.new w3 24 za)
      have HW3 := Lib.hid (Gw.alloc w3 (.cells za 24))
      clear b3 HH HF HT1
      go_wp2_with (first
        | (refine wp_storeN rfl _ _ rfl w3.heap.size arr rfl rfl 24 za HN3.out HAS.out HZS.out HAO.out ?_; intro w4 k4 b4 o4; have HK4 := Lib.hid k4; have b4' := HW3.out.trans (b4 w3.heap.size (Nat.le_refl _)); have HT4 := Lib.hid (HT3.out.below b4'); have HB4 := Lib.hid (HB3.out.trans (b4'.mono HB3.out.size)); clear k4 b4 o4 b4')
        | (refine wp_loadG rfl _ rfl w3.heap.size rfl 24 arr HK4.out HAS.out ?_))
      have HBI := Lib.hid (bind_ok HT4.out (Nat.le_of_lt HT4.out.lt) (nmT 0) HGD.out 99 (by omega) (by omega) (by rw [tabF_len]; omega) (.inl (by rw [tabF_0]; rfl)))
      rw [tabF_0, nV, ← HAR.out] at HBI
      refine Calls.mono HBI.out ?_
      rintro e w5 ⟨rfl, t5, b5⟩
      have hlen := len_c t5
      rw [set_len, tabF_0, tabF_len] at hlen
      have HL := Lib.hid hlen
      have HB5 := Lib.hid (HB4.out.trans (b5.mono HB.out.2.1))
      clear t5 b5 HBI hlen
      go_wp2_with fail
      refine Calls.mono HL.out ?_
      rintro e w' ⟨rfl, rfl⟩
      go_wp2_with fail
      go_ret
      exact ⟨rfl, HB5.out⟩
end Go.Proofs.Ytdfhdgdhhgabbaa
namespace Go.Proofs.Ytdfhdgdhhgabbaa.tableFull
open Go.ChangeShapes Go.WideShapes Go.ChangeAt Go.RowKit
open Go.ChangeMaps (open_string shut_string)
set_option linter.unusedVariables false
set_option maxRecDepth 100000 in
theorem lifted (os : Os) (started : os.Started) (H : Type) (enc : TypeId × Value → H) :
    ReturnsInHanded {} Try.checked os 5 .any (Rows.tableFullSpec.pre6 enc Try.prog Try.f5 Rows.tableFullRow.domain false) (Rows.tableFullSpec.post enc Try.prog Try.f5 false true false false) := by
  refine returnsInHanded_of_change (C := Try.checked) own started (by kernel_rfl) Try.func5
    (ChangeSpec.witness6 (enc := enc) (C := Try.checked) false ⟨#[], #[.int .u8 0], []⟩ 8 (by kernel_rfl) (by kernel_rfl) (by kernel_rfl) (by kernel_rfl)) ?_
  intro W base args ds gs before hval0 hW hcnd _
  have hval : ∀ (j : Nat) t v, Try.f5.params[j]? = some t → args[j]? = some v → Value.okWide Try.prog W .any base t v := hval0
  have hW' := hW
  obtain ⟨p, q, hA0, hV, rfl, hfz, hnd⟩ := hW
  have hA : DataW.TrodAll enc Try.prog W 0 (fun _ => true) true Try.f5.params.toList args.toList ds p := hA0
  rw [Try.params5] at hA hval
  obtain ⟨v0, vs0, d0, ds0, p0, q0, hargs, rfl, rfl, h0, r0⟩ := trodAll_cons hA
  obtain ⟨rfl, rfl, rfl⟩ := trodAll_nil r0
  obtain rfl : args = #[v0] := by cases args; simp_all
  obtain ⟨rfl, rfl⟩ := trodVars_none hV
  have k0 := h0
  have lt0 : ∀ x ∈ p0, x.block < W.heap.size := by obtain ⟨m, hm⟩ := k0; exact DataW.trod_lt m _ _ _ hm
  obtain ⟨a0, e0v, _, _, w0⟩ := open_int Try.underlying5 (hval 0 5 v0 rfl rfl) h0; subst e0v
  clear hA0 hval0
  refine (full_walk W a0 w0).mono fun e W' ⟨he, bel⟩ => ?_
  subst he
  exact ⟨_, rfl, _, _, _, [], _, [], hW', trodAll_mk1 (shut_bool Try.underlying4 _), (trodAll_cons_mk (Below.trod laidOut (by kernel_rfl) (of_decide_eq_true (by kernel_rfl)) k0 bel lt0) trodAll_mk0), rfl, bel.frame _, fun h => by cases h⟩
theorem over : Rows.tableFullRow.holds Try.pinned (OpenSpec.ofChange Rows.tableFullSpec) :=
  OpenClaim.holds_of_wide 5 Try.f5 rfl rfl rfl rfl rfl rfl rfl ⟨rfl, rfl, rfl, rfl, rfl⟩ rfl rfl rfl rfl rfl (by kernel_rfl) Try.func5 (by kernel_rfl)
    (of_decide_eq_true (by kernel_rfl)) (by unfold Func.isWrapper; first | (rw [if_pos (by decide +kernel)]; kernel_rfl) | (rw [if_neg (by decide +kernel)]; exact ⟨rfl, rfl⟩))
    (fun os started H enc _ => lifted os started H enc)
theorem proved : Rows.TableFullSaid := over
end Go.Proofs.Ytdfhdgdhhgabbaa.tableFull
