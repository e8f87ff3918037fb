/- What codec.Dec's Raw and Words read of what was written. Conditions: lengths. -/
import Derived.Test.YtoigahkgdanjnaaDecC
namespace Go.Proofs.Ytoigahkgdanjnaa
set_option linter.unusedVariables false
set_option linter.unusedSimpArgs false
open Go.RowKit
theorem U64_nat (n : Nat) (h : n < 2 ^ 64) : U64 (BitVec.ofNat 64 n) = (n : Int) := by
  unfold U64
  rw [BitVec.toNat_ofNat, Nat.mod_eq_of_lt h]
theorem dec_len (w : World) (g n : Nat) (rest : List (BitVec 8)) (h : DecAt w g (uintL (BitVec.ofNat 64 n) ++ rest) 0) (hn : n < 2 ^ 64) (hl : rest.length ≤ 536870912) :
    Calls Try.prog 25 #[.pointer (some ⟨g, 0, none⟩)] w fun e w' => e = .returned (.int .u64 (n : Int)) ∧ DecAt w' g rest 0 ∧ Only w w' g := by
  have hu : (uintL (BitVec.ofNat 64 n)).length ≤ 10 := uintF_len 9 _
  have h2 := dec_uint w g _ h (by simp only [List.length_append]; omega)
  rw [dec_uint_back] at h2
  refine h2.mono fun e w' h => ?_
  obtain ⟨h3, h4, h5⟩ := h
  rw [U64_nat n hn] at h3
  exact ⟨h3, h4, h5⟩
def RawP (g : Nat) (xs rest : List (BitVec 8)) (w : World) (e : Ending) (w' : World) : Prop := ∃ A c, e = .returned (.slice A xs.length c) ∧ Rd b8 w' w'.heap.size A xs ∧ DecAt w' g rest 0 ∧ Only w w' g ∧ ∀ a, A = some a → w.heap.size ≤ a.block
theorem DecAt.below {w w' : World} {g : Nat} {bs : List (BitVec 8)} {err : Int} (h : DecAt w g bs err) (hb : Below w.heap.size w w') : DecAt w' g bs err := by
  obtain ⟨A, c, hk, hc, hr, ha⟩ := h.ex
  exact ⟨A, c, hk.below hb hk.lt, hc, (hr.below hb).more hb.size, ha⟩
theorem DecAt.lt {w : World} {g : Nat} {bs : List (BitVec 8)} {err : Int} (h : DecAt w g bs err) : g < w.heap.size := by
  obtain ⟨A, c, hk, _⟩ := h.ex
  exact hk.lt
set_option maxHeartbeats 400000
set_option maxRecDepth 100000
theorem dec_raw (w : World) (g : Nat) (xs rest : List (BitVec 8)) (h : DecAt w g (uintL (BitVec.ofNat 64 xs.length) ++ (xs ++ rest)) 0) (hl : (xs ++ rest).length ≤ 536870912) :
    Calls Try.prog 35 #[.pointer (some ⟨g, 0, none⟩)] w (RawP g xs rest w) := by
  have hl2 := hl
  simp only [List.length_append] at hl2
  have HU := Lib.hid (dec_len w g xs.length (xs ++ rest) h (by omega) hl)
  have hgl := h.lt
  go_enter Try.func35, Try.ntmps35
  go_wp2_with fail
  refine Calls.mono HU.out ?_
  rintro e w1 ⟨rfl, hd, ho⟩
  obtain ⟨A, c, hk, hc, hr, ha⟩ := hd.ex
  obtain ⟨c1, c2⟩ := hk.two
  have HA := Lib.hid ha
  have hn : (xs ++ rest).length = xs.length + rest.length := List.length_append
  have t1 : IntKind.u64.wrap (((xs ++ rest).length : Nat) : Int) = ((xs ++ rest).length : Nat) := by simp [IntKind.wrap, IntKind.bits, IntKind.signed]; omega
  have t2 : decide ((((xs ++ rest).length : Nat) : Int) < (xs.length : Int)) = false := by rw [decide_eq_false_iff_not, hn]; omega
  obtain ⟨N, hN⟩ : ∃ N, N = (xs ++ rest).length := ⟨_, rfl⟩
  rw [← hN] at hk hc c1 t1 t2 hn
  have HN := Lib.hid hn
  have HNN := Lib.hid hN
  have hcx : xs.length ≤ c := by omega
  have hcn : xs.length ≤ N := by omega
  have hrx : Rd b8 w1 w1.heap.size A xs := by
    have := hr.take xs.length
    rwa [List.take_left] at this
  have HC := Lib.hid (clone_c xs A c w1 hrx (by omega))
  have p1 : (0 : Int) ≤ (xs.length : Int) := by omega
  have p2 : (xs.length : Int) ≤ (c : Int) := by omega
  have p3 : (xs.length : Int) ≤ (N : Int) := by omega
  clear ha hn hN
  go_wp2_with fail
  refine Calls.mono HC.out ?_
  rintro e w2 ⟨A2, x2, rfl, hc2, hr2, hb2, ha2⟩
  have hk2 := hk.below hb2 hk.lt
  obtain ⟨c1', c2'⟩ := hk2.two
  have f0 := hk2.free 0
  have hgl2 := hk2.lt
  have hr2' : Rd b8 w2 w2.heap.size A (xs ++ rest) := (hr.below hb2).more hb2.size
  have hfin : ∀ (A' : Option Addr) (n x : Nat), A' = cutA A c xs.length → n = N - xs.length → x = c - xs.length → RawP g xs rest w (.returned (.slice A2 xs.length x2)) (w2.setCell ⟨g, 0, none⟩ (.slice A' n x)) := by
    intro A' n x e1 e2 e3
    have hlen : (xs ++ rest).length ≤ c := by rw [← HNN.out]; exact hc
    obtain ⟨d1, d2⟩ := dec_cut (n := n) (bs := xs ++ rest) hk2 hlen hr2' HA.out e1 (by rw [← HNN.out]; exact e2) e3
    rw [List.drop_left] at d1
    have hne : ∀ a, A2 = some a → a.block ≠ g := by
      intro a e
      have h1 := (ha2 a e).1
      have h2 := hk.lt
      omega
    refine ⟨A2, x2, rfl, hr2.only d2 hne, d1, (ho.trans (Only.of hb2)).trans d2, fun a e => Nat.le_trans ho.size (ha2 a e).1⟩
  have HF := Lib.hid hfin
  clear hfin p1 p2 p3
  rcases (show c = xs.length ∨ xs.length < c by omega) with hcap | hcap
  · have hcap' := hcap
    subst hcap'
    have p4 := sliced_cut A xs.length N xs.length
    go_wp2_with fail
    go_ret
    exact HF.out _ _ _ (by unfold cutA; rw [if_pos rfl]) (by omega) (by omega)
  · go_wp2_with fail
    go_ret
    exact HF.out _ _ _ (by unfold cutA; rw [if_neg (by omega)]) (by omega) (by omega)
theorem dec_uint_short (w : World) (g : Nat) (x : BitVec 64) (m : Nat) (hm : m < (uintL x).length) (h : DecAt w g ((uintL x).take m) 0) :
    Calls Try.prog 25 #[.pointer (some ⟨g, 0, none⟩)] w fun e w' => e = .returned (.int .u64 0) ∧ DecAt w' g [] 3 ∧ Only w w' g := by
  have hu : (uintL x).length ≤ 10 := uintF_len 9 _
  have k := dec_uint w g _ h (by simp only [List.length_take]; omega)
  rw [dec_uint_cut x m hm] at k
  exact k
end Go.Proofs.Ytoigahkgdanjnaa
