/- What codec.Dec's Words reads of what was written. Conditions: lengths. -/
import Derived.Test.YteefcimepdbehaaDecD
namespace Go.Proofs.Yteefcimepdbehaa
set_option linter.unusedVariables false
set_option linter.unusedSimpArgs false
open Go.RowKit
theorem leN_lowN (v : BitVec 64) : ∀ n : Nat, n ≤ 8 → ∀ i, i < 64 → (leN (lowN v n)).getLsbD i = (v.getLsbD i && decide (i < 8 * n))
  | 0, _, i, _ => by simp [lowN, leN]
  | n + 1, hn, i, hi => by
    rw [lowN_snoc, leN_snoc, BitVec.getLsbD_or, leN_lowN v n (by omega) i hi, lowN_len, BitVec.getLsbD_shiftLeft]
    by_cases a : i < 8 * n
    · have b : i < 8 * (n + 1) := by omega
      simp [a, b]
    · by_cases b : i < 8 * (n + 1)
      · simp [hi, a, b, show i - 8 * n < 8 from by omega, show 8 * n + (i - 8 * n) = i from by omega, show i - 8 * n < 64 from by omega]
      · simp [hi, a, b, show ¬ i - 8 * n < 8 from by omega]
def flatW (ws : List (BitVec 64)) : List (BitVec 8) := (ws.map fun x => lowN x 8).flatten
theorem flatW_len (ws : List (BitVec 64)) : (flatW ws).length = 8 * ws.length := by
  unfold flatW
  induction ws with
  | nil => rfl
  | cons a l ih => simp only [List.map_cons, List.flatten_cons, List.length_append, ih, lowN_len, List.length_cons]; omega
theorem flatW_append (a b : List (BitVec 64)) : flatW (a ++ b) = flatW a ++ flatW b := by unfold flatW; rw [List.map_append, List.flatten_append]
theorem flatW_cons (x : BitVec 64) (b : List (BitVec 64)) : flatW (x :: b) = lowN x 8 ++ flatW b := rfl
theorem flatW_split (ws : List (BitVec 64)) (k : Nat) (hk : k < ws.length) : flatW ws = flatW (ws.take k) ++ (lowN ws[k] 8 ++ flatW (ws.drop (k + 1))) := by
  have h : ws = ws.take k ++ (ws[k] :: ws.drop (k + 1)) := by rw [← List.drop_eq_getElem_cons hk, List.take_append_drop]
  exact (congrArg flatW h).trans (by rw [flatW_append, flatW_cons])
theorem get_word (ws : List (BitVec 64)) (rest : List (BitVec 8)) (k : Nat) (hk : k < ws.length) : getB (flatW ws ++ rest) ((k : Int) * 8) 8 = ws[k] ∧ errB ((flatW ws ++ rest).length : Int) ((k : Int) * 8) 8 = 0 := by
  have hl := flatW_len ws
  have hin : inB ((flatW ws ++ rest).length : Int) ((k : Int) * 8) 8 = true := by
    unfold inB
    rw [decide_eq_true_eq, List.length_append]
    omega
  refine ⟨?_, by unfold errB; rw [if_pos hin]⟩
  unfold getB
  rw [if_pos hin]
  have hs : seg (flatW ws ++ rest) ((k : Int) * 8) 8 = lowN ws[k] 8 := by
    unfold seg
    have e1 : ((k : Int) * 8).toNat = 8 * k := by omega
    rw [e1, show (8 : Int).toNat = 8 from rfl, flatW_split ws k hk, List.append_assoc, List.append_assoc]
    have h1 : (flatW (ws.take k)).length = 8 * k := by rw [flatW_len, List.length_take]; omega
    rw [← h1, List.drop_left]
    rw [List.take_append_of_le_length (by rw [lowN_len]; omega), List.take_of_length_le (by rw [lowN_len]; omega)]
  rw [hs]
  apply BitVec.eq_of_getLsbD_eq
  intro i hi
  rw [leN_lowN _ 8 (by omega) i hi]
  simp [hi]
theorem one64 : One Try.prog 30 29 (.int .u64 0) 8 :=
  ⟨by kernel_rfl, by
    have h : (Try.prog.info? 29).map (fun i => (i.zero, i.size, i.bytes)) = some (some (.int .u64 0), 1, 8) := by kernel_rfl
    obtain ⟨i, h1, h2, h3, h4⟩ := info_parts h
    exact ⟨i, h1, h2, h3, h4⟩, rfl⟩
def WrdP (g : Nat) (ws : List (BitVec 64)) (rest : List (BitVec 8)) (w : World) (e : Ending) (w' : World) : Prop := ∃ q, e = .returned (.slice (some ⟨q, 0, none⟩) ws.length ws.length) ∧ Rd u64v w' w'.heap.size (some ⟨q, 0, none⟩) ws ∧ DecAt w' g rest 0 ∧ Only w w' g ∧ w.heap.size ≤ q
def partW (ws : List (BitVec 64)) (k : Nat) : List (BitVec 64) := ws.take k ++ List.replicate (ws.length - k) 0#64
theorem partW_len (ws : List (BitVec 64)) (k : Nat) (h : k ≤ ws.length) : (partW ws k).length = ws.length := by unfold partW; simp; omega
theorem part_set (ws : List (BitVec 64)) (k : Nat) (hk : k < ws.length) : (partW ws k).set k ws[k] = partW ws (k + 1) := by
  have e : List.replicate (ws.length - k) 0#64 = 0#64 :: List.replicate (ws.length - (k + 1)) 0#64 := by
    rw [← List.replicate_succ]; congr 1; omega
  unfold partW
  rw [e, take_snoc' _ _ hk, List.set_append_right _ _ (by simp; omega)]
  have e3 : k - (ws.take k).length = 0 := by simp; omega
  rw [e3, List.append_assoc]
  simp
set_option maxHeartbeats 800000
set_option maxRecDepth 100000
theorem dec_words (w : World) (g : Nat) (ws : List (BitVec 64)) (rest : List (BitVec 8)) (h : DecAt w g (uintL (BitVec.ofNat 64 ws.length) ++ (flatW ws ++ rest)) 0) (hl : (flatW ws ++ rest).length ≤ 536870912) :
    Calls Try.prog 31 #[.pointer (some ⟨g, 0, none⟩)] w (WrdP g ws rest w) := by
  have hfl := flatW_len ws
  have hl2 := hl
  simp only [List.length_append] at hl2
  have HU := Lib.hid (dec_len w g ws.length (flatW ws ++ rest) h (by omega) hl)
  have hgl := h.lt
  go_enter Try.func31, Try.ntmps31
  go_wp2_with fail
  refine Calls.mono HU.out ?_
  rintro e w1 ⟨rfl, hd, ho⟩
  obtain ⟨A, c, hk, hc, hr, ha⟩ := hd.ex
  obtain ⟨c1, c2⟩ := hk.two
  have HA := Lib.hid ha
  have hn : (flatW ws ++ rest).length = 8 * ws.length + rest.length := by rw [List.length_append, hfl]
  obtain ⟨N, hN⟩ : ∃ N, N = (flatW ws ++ rest).length := ⟨_, rfl⟩
  rw [← hN] at hk hc c1 hn
  have HN := Lib.hid hn
  have HNN := Lib.hid hN
  have t0 : (N : Int) / 8 = ((N / 8 : Nat) : Int) := by omega
  have t1 : IntKind.u64.wrap (((N / 8 : Nat) : Int)) = ((N / 8 : Nat) : Int) := by simp [IntKind.wrap, IntKind.bits, IntKind.signed]; omega
  have t2 : decide (((N / 8 : Nat) : Int) < (ws.length : Int)) = false := by rw [decide_eq_false_iff_not]; omega
  obtain ⟨M, hM⟩ : ∃ M, M = N / 8 := ⟨_, rfl⟩
  rw [← hM] at t0 t1 t2
  have hz : (8 : Nat) * ws.length ≤ N := by omega
  have hNb : N ≤ 536870912 := by omega
  have t3 : (M : Int) ≤ 100000000 := by omega
  clear ha hn hN hfl hM
  go_wp2_with (at_make; refine wp_make (f := u64v) one64 rfl _ _ rfl 0#64 rfl w1.heap.size ws.length _ _ _ _ rfl rfl rfl rfl (by omega) (by decide) (Nat.le_refl _) ?_; rintro q w2 hq ho2 hb2 _)
  rw [← hq]
  have HQ := Lib.hid hq
  clear hq t0 t1 t2 t3
  go_loopw [23] (fun i wr => ∃ k : Nat, k ≤ ws.length ∧ i = .int .i64 k ∧ Ow u64v 29 wr w1.heap.size (.slice (some ⟨q, 0, none⟩) ws.length ws.length) (partW ws k) ∧ Below w1.heap.size w1 wr) (fun i _ => ws.length - (intOf i).toNat)
  case atStart => exact ⟨0, by omega, rfl, by simpa [partW] using ho2, hb2⟩
  case round =>
    obtain ⟨k, hkl, rfl, how, hB⟩ := hrel
    have hkr := hk.below hB hk.lt
    obtain ⟨c1, c2⟩ := hkr.two
    have hgl2 := hkr.lt
    by_cases hlt : k < ws.length
    · obtain ⟨e1, e2⟩ := get_word ws rest k hlt
      have hrr := (hr.below hB).more hB.size
      have HG := Lib.hid (get_c (flatW ws ++ rest) A c ((k : Int) * 8) 8 wr wr.heap.size hrr (by omega))
      rw [e1, e2] at HG
      have hll := partW_len ws k hkl
      have hf := how.free k
      have hge := how.ge
      have hcell := how.cell (j := k) (by rw [hll]; exact hlt)
      have hset := how.set (j := k) (by rw [hll]; exact hlt) ws[k]
      have hst := part_set ws k hlt
      rw [hst] at hset
      have hB' : ∀ m, Below w1.heap.size w1 ((wr.drewN m).setCell ⟨q, k, none⟩ (u64v ws[k])) := fun m => (bdN hB m).setCell (p := ⟨q, k, none⟩) hge.1 _
      obtain ⟨x, hx⟩ : ∃ x, x = ws[k] := ⟨_, rfl⟩
      rw [← hx] at HG hset hB'
      rw [← HNN.out] at HG
      obtain ⟨z, hz'⟩ : ∃ z, z = (partW ws k)[k]'(by rw [hll]; exact hlt) := ⟨_, rfl⟩
      rw [← hz'] at hcell
      unfold u64v at hcell hset hB'
      have HS := Lib.hid hset
      have HB' := Lib.hid hB'
      have p1 : (0 : Int) ≤ (k : Int) := by omega
      have p2 : (k : Int) < (ws.length : Int) := by omega
      clear e1 e2 hll hset hst hB' hx hz' how hge
      go_wp2_with fail
      refine Calls.mono HG.out.go ?_
      rintro e w3 ⟨rfl, m, rfl⟩
      go_wp2_with fail
      go_roundw
      case rel => exact ⟨k + 1, by omega, by go_num, HS.out, HB'.out m⟩
      case measure => (first | (simp [intOf]; done) | (simp [intOf]; omega))
    · have hkk : k = ws.length := by omega
      subst hkk
      have f0 := hkr.free 0
      have hw : partW ws ws.length = ws := by unfold partW; simp
      rw [hw] at how
      have hrr : Rd b8 wr wr.heap.size A (flatW ws ++ rest) := (hr.below hB).more hB.size
      obtain ⟨m, hm⟩ : ∃ m, m = 8 * ws.length := ⟨_, rfl⟩
      have hqb := how.ge.1
      have hqr := how.rd
      have hfin : ∀ (A' : Option Addr) (n x : Nat), A' = cutA A c m → n = N - m → x = c - m → WrdP g ws rest w (.returned (.slice (some ⟨q, 0, none⟩) ws.length ws.length)) (wr.setCell ⟨g, 0, none⟩ (.slice A' n x)) := by
        intro A' n x e1 e2 e3
        have hlen : (flatW ws ++ rest).length ≤ c := by rw [← HNN.out]; exact hc
        obtain ⟨d1, d2⟩ := dec_cut (n := n) (bs := flatW ws ++ rest) hkr hlen hrr HA.out e1 (by rw [← HNN.out]; exact e2) e3
        rw [hm, ← flatW_len ws, List.drop_left] at d1
        have hne : ∀ a, (some ⟨q, 0, none⟩ : Option Addr) = some a → a.block ≠ g := by
          intro a e
          cases e
          have h2 := hk.lt
          exact fun (e : q = g) => absurd hqb (by omega)
        refine ⟨_, rfl, hqr.only d2 hne, d1, (ho.trans (Only.of hB)).trans d2, Nat.le_trans ho.size hqb⟩
      have HF := Lib.hid hfin
      have q1 : (0 : Int) ≤ (m : Int) := by omega
      have q2 : (m : Int) ≤ (c : Int) := by have := hc; omega
      have q3 : (m : Int) ≤ (N : Int) := by omega
      have q4 : ((ws.length : Nat) : Int) * 8 = (m : Int) := by omega
      have q5 : IntKind.u64.wrap (m : Int) = (m : Int) := by simp [IntKind.wrap, IntKind.bits, IntKind.signed]; omega
      clear hfin hqr hrr hw how hqb hm hz
      rcases (show c = m ∨ m < c by omega) with hcap | hcap
      · have hcap' := hcap
        subst hcap'
        have p4 := sliced_cut A c N c
        go_wp2_with fail
        go_ret
        exact HF.out _ _ _ (by unfold cutA; rw [if_pos rfl]) (by omega) (by omega)
      · go_wp2_with fail
        go_ret
        exact HF.out _ _ _ (by unfold cutA; rw [if_neg (by omega)]) (by omega) (by omega)
end Go.Proofs.Yteefcimepdbehaa
