/- slices.IndexFunc and ContainsFunc over frames, as cache.room calls them; its closures; cache.New. Conditions: lengths. -/
import Derived.Test.YthmaofbnhfgfaaaCmE
namespace Go.Proofs.Ythmaofbnhfgfaaa
set_option linter.unusedVariables false
set_option linter.unusedSimpArgs false
open Go.RowKit Go.Maps
set_option maxRecDepth 100000
set_option maxHeartbeats 4000000
theorem room1_c (w : World) (f : Fr) : Calls Try.prog 21 #[.agg f.cs.toArray] w fun e w' => e = .returned (.bool (!f.full)) ∧ Below w.heap.size w w' := by
  obtain ⟨⟨kx, ky⟩, full, b, dirty, pins, mrk, A, c⟩ := f
  show Calls Try.prog 21 #[.agg #[.int .i64 kx, .int .i64 ky, .bool full, .slice A b.length c, .bool dirty, .int .i64 pins, .bool mrk]] w fun e w' => e = .returned (.bool (!full)) ∧ Below w.heap.size w w'
  go_enter Try.func21, Try.ntmps21
  go_wp2_with fail
  go_ret
  exact ⟨rfl, (by repeat (first | with_reducible assumption | with_reducible exact Below.refl _ _ | with_reducible apply bdN | with_reducible apply Below.drew | with_reducible refine Below.alloc ?_ (by simp) _ | with_reducible refine Below.setCell ?_ (by simp) _))⟩
theorem room2_c (w : World) (f : Fr) : Calls Try.prog 23 #[.agg f.cs.toArray] w fun e w' => e = .returned (.bool (decide (f.pins = 0))) ∧ Below w.heap.size w w' := by
  obtain ⟨⟨kx, ky⟩, full, b, dirty, pins, mrk, A, c⟩ := f
  show Calls Try.prog 23 #[.agg #[.int .i64 kx, .int .i64 ky, .bool full, .slice A b.length c, .bool dirty, .int .i64 pins, .bool mrk]] w fun e w' => e = .returned (.bool (decide (pins = 0))) ∧ Below w.heap.size w w'
  have hp : ((pins : Int) == 0) = decide (pins = 0) := by rw [Bool.eq_iff_iff]; simp
  obtain ⟨x, hx⟩ : ∃ x, x = decide (pins = 0) := ⟨_, rfl⟩
  rw [← hx] at hp ⊢
  clear hx
  go_enter Try.func23, Try.ntmps23
  go_wp2_with fail
  go_ret
  exact ⟨by first | rfl | rw [← hp] | simp [hp], (by repeat (first | with_reducible assumption | with_reducible exact Below.refl _ _ | with_reducible apply bdN | with_reducible apply Below.drew | with_reducible refine Below.alloc ?_ (by simp) _ | with_reducible refine Below.setCell ?_ (by simp) _))⟩
theorem dirty1_c (w : World) (f : Fr) : Calls Try.prog 19 #[.agg f.cs.toArray] w fun e w' => e = .returned (.bool f.dirty) ∧ Below w.heap.size w w' := by
  obtain ⟨⟨kx, ky⟩, full, b, dirty, pins, mrk, A, c⟩ := f
  show Calls Try.prog 19 #[.agg #[.int .i64 kx, .int .i64 ky, .bool full, .slice A b.length c, .bool dirty, .int .i64 pins, .bool mrk]] w fun e w' => e = .returned (.bool dirty) ∧ Below w.heap.size w w'
  go_enter Try.func19, Try.ntmps19
  go_wp2_with fail
  go_ret
  exact ⟨rfl, (by repeat (first | with_reducible assumption | with_reducible exact Below.refl _ _ | with_reducible apply bdN | with_reducible apply Below.drew | with_reducible refine Below.alloc ?_ (by simp) _ | with_reducible refine Below.setCell ?_ (by simp) _))⟩
section
variable {w : World} {g fb mb N : Nat} {fs : List Fr} {hand : Nat} {tb : Tk} {ho : Option Nat}
theorem index1_c (h : CaAt w g fb mb N fs hand tb ho) (p : Fr → Bool) (hpe : p = fun f => !f.full) (K : Nat) (hK : K ≤ N) (h1 : ∀ j (hj : j < fs.length), j < K → p fs[j] = false) (h2 : ∀ hj : K < fs.length, p fs[K] = true) (r : Int) (hr : r = if K < N then (K : Int) else -1) :
    Calls Try.prog 20 #[.slice (some ⟨fb, 0, none⟩) N N, .func (.func 21) #[] #[]] w fun e w' => e = .returned (.int .i64 r) ∧ Below w.heap.size w w' := by
  have H := Lib.hid h
  have HF := Lib.hid (fun (W : World) (f : Fr) => show Calls Try.prog 21 #[.agg f.cs.toArray] W fun e w' => e = .returned (.bool (p f)) ∧ Below W.heap.size W w' from by rw [hpe]; exact room1_c W f)
  have HP := Lib.hid (And.intro h1 (And.intro h2 (And.intro hr h.n)))
  have q1 : (N : Int) ≤ 64 := by have := h.nl; omega
  clear h hpe h1 h2 hr
  go_enter Try.func20, Try.ntmps20
  go_wp2_with fail
  go_loopw [8] (fun i wr => ∃ k : Nat, k ≤ K ∧ i = .int .i64 k ∧ Hid (Below w.heap.size w wr)) (fun i _ => N - (intOf i).toNat)
  case atStart => exact ⟨0, Nat.zero_le _, rfl, Lib.hid (Below.refl _ _)⟩
  case round =>
    obtain ⟨k, hk, rfl, hB⟩ := hrel
    have p0 : (0 : Int) ≤ (k : Int) := by omega
    by_cases hlt : k < N
    · have p1 : (k : Int) < (N : Int) := by omega
      have hkl : k < fs.length := by rw [← HP.out.2.2.2]; exact hlt
      obtain ⟨c0, c1, c2, c3, c4, c5, c6⟩ := (H.out.below hB.out).cells hkl
      have HC := Lib.hid (HF.out wr fs[k])
      rw [show fs[k].cs.toArray = #[.int .i64 fs[k].k.1, .int .i64 fs[k].k.2, .bool fs[k].full, .slice fs[k].A fs[k].b.length fs[k].c, .bool fs[k].dirty, .int .i64 fs[k].pins, .bool fs[k].mrk] from rfl] at HC
      obtain ⟨f, hf⟩ : ∃ f, f = fs[k] := ⟨_, rfl⟩
      rw [← hf] at c0 c1 c2 c3 c4 c5 c6 HC
      obtain ⟨⟨kx, ky⟩, full, b, dirty, pins, mrk, A, c⟩ := f
      simp only at c0 c1 c2 c3 c4 c5 c6 HC
      obtain ⟨bl, hbl⟩ : ∃ n, n = b.length := ⟨_, rfl⟩
      rw [← hbl] at c3 HC
      obtain ⟨x, hx⟩ : ∃ x, x = p ⟨(kx, ky), full, b, dirty, pins, mrk, A, c⟩ := ⟨_, rfl⟩
      rw [← hx] at HC
      rw [hf] at hx
      clear hf hbl
      by_cases hkK : k = K
      · have hxt : x = true := by rw [hx]; subst hkK; exact HP.out.2.1 hkl
        subst hxt
        have HE := Lib.hid (show r = (k : Int) from by rw [HP.out.2.2.1, if_pos (by omega), hkK])
        clear hx hkl hkK
        go_wp2_with fail
        refine Calls.mono HC.out ?_
        rintro e w2 ⟨rfl, b2⟩
        have HB2 := Lib.hid (hB.out.trans (b2.mono hB.out.size))
        clear b2 c0 c1 c2 c3 c4 c5 c6 HC
        go_wp2_with fail
        go_ret
        exact ⟨by rw [HE.out]; rfl, HB2.out⟩
      · have hxf : x = false := by rw [hx]; exact HP.out.1 k hkl (by omega)
        subst hxf
        clear hx hkl
        go_wp2_with fail
        refine Calls.mono HC.out ?_
        rintro e w2 ⟨rfl, b2⟩
        have HB2 := Lib.hid (hB.out.trans (b2.mono hB.out.size))
        clear b2 c0 c1 c2 c3 c4 c5 c6 HC
        go_wp2_with fail
        go_roundw
        case rel => exact ⟨k + 1, by omega, by go_num, HB2⟩
        case measure => (first | (simp [intOf]; done) | (simp [intOf]; omega))
    · obtain rfl : k = N := by omega
      have HE := Lib.hid (show r = -1 from by rw [HP.out.2.2.1, if_neg (by omega)])
      clear hlt
      go_wp2_with fail
      go_ret
      exact ⟨by rw [HE.out]; rfl, hB.out⟩
theorem index2_c (h : CaAt w g fb mb N fs hand tb ho) (p : Fr → Bool) (hpe : p = fun f => decide (f.pins = 0)) (K : Nat) (hK : K ≤ N) (h1 : ∀ j (hj : j < fs.length), j < K → p fs[j] = false) (h2 : ∀ hj : K < fs.length, p fs[K] = true) (r : Int) (hr : r = if K < N then (K : Int) else -1) :
    Calls Try.prog 20 #[.slice (some ⟨fb, 0, none⟩) N N, .func (.func 23) #[] #[]] w fun e w' => e = .returned (.int .i64 r) ∧ Below w.heap.size w w' := by
  have H := Lib.hid h
  have HF := Lib.hid (fun (W : World) (f : Fr) => show Calls Try.prog 23 #[.agg f.cs.toArray] W fun e w' => e = .returned (.bool (p f)) ∧ Below W.heap.size W w' from by rw [hpe]; exact room2_c W f)
  have HP := Lib.hid (And.intro h1 (And.intro h2 (And.intro hr h.n)))
  have q1 : (N : Int) ≤ 64 := by have := h.nl; omega
  clear h hpe h1 h2 hr
  go_enter Try.func20, Try.ntmps20
  go_wp2_with fail
  go_loopw [8] (fun i wr => ∃ k : Nat, k ≤ K ∧ i = .int .i64 k ∧ Hid (Below w.heap.size w wr)) (fun i _ => N - (intOf i).toNat)
  case atStart => exact ⟨0, Nat.zero_le _, rfl, Lib.hid (Below.refl _ _)⟩
  case round =>
    obtain ⟨k, hk, rfl, hB⟩ := hrel
    have p0 : (0 : Int) ≤ (k : Int) := by omega
    by_cases hlt : k < N
    · have p1 : (k : Int) < (N : Int) := by omega
      have hkl : k < fs.length := by rw [← HP.out.2.2.2]; exact hlt
      obtain ⟨c0, c1, c2, c3, c4, c5, c6⟩ := (H.out.below hB.out).cells hkl
      have HC := Lib.hid (HF.out wr fs[k])
      rw [show fs[k].cs.toArray = #[.int .i64 fs[k].k.1, .int .i64 fs[k].k.2, .bool fs[k].full, .slice fs[k].A fs[k].b.length fs[k].c, .bool fs[k].dirty, .int .i64 fs[k].pins, .bool fs[k].mrk] from rfl] at HC
      obtain ⟨f, hf⟩ : ∃ f, f = fs[k] := ⟨_, rfl⟩
      rw [← hf] at c0 c1 c2 c3 c4 c5 c6 HC
      obtain ⟨⟨kx, ky⟩, full, b, dirty, pins, mrk, A, c⟩ := f
      simp only at c0 c1 c2 c3 c4 c5 c6 HC
      obtain ⟨bl, hbl⟩ : ∃ n, n = b.length := ⟨_, rfl⟩
      rw [← hbl] at c3 HC
      obtain ⟨x, hx⟩ : ∃ x, x = p ⟨(kx, ky), full, b, dirty, pins, mrk, A, c⟩ := ⟨_, rfl⟩
      rw [← hx] at HC
      rw [hf] at hx
      clear hf hbl
      by_cases hkK : k = K
      · have hxt : x = true := by rw [hx]; subst hkK; exact HP.out.2.1 hkl
        subst hxt
        have HE := Lib.hid (show r = (k : Int) from by rw [HP.out.2.2.1, if_pos (by omega), hkK])
        clear hx hkl hkK
        go_wp2_with fail
        refine Calls.mono HC.out ?_
        rintro e w2 ⟨rfl, b2⟩
        have HB2 := Lib.hid (hB.out.trans (b2.mono hB.out.size))
        clear b2 c0 c1 c2 c3 c4 c5 c6 HC
        go_wp2_with fail
        go_ret
        exact ⟨by rw [HE.out]; rfl, HB2.out⟩
      · have hxf : x = false := by rw [hx]; exact HP.out.1 k hkl (by omega)
        subst hxf
        clear hx hkl
        go_wp2_with fail
        refine Calls.mono HC.out ?_
        rintro e w2 ⟨rfl, b2⟩
        have HB2 := Lib.hid (hB.out.trans (b2.mono hB.out.size))
        clear b2 c0 c1 c2 c3 c4 c5 c6 HC
        go_wp2_with fail
        go_roundw
        case rel => exact ⟨k + 1, by omega, by go_num, HB2⟩
        case measure => (first | (simp [intOf]; done) | (simp [intOf]; omega))
    · obtain rfl : k = N := by omega
      have HE := Lib.hid (show r = -1 from by rw [HP.out.2.2.1, if_neg (by omega)])
      clear hlt
      go_wp2_with fail
      go_ret
      exact ⟨by rw [HE.out]; rfl, hB.out⟩
theorem contains_c (h : CaAt w g fb mb N fs hand tb ho) (p : Fr → Bool) (hpe : p = fun f => decide (f.pins = 0)) (K : Nat) (hK : K ≤ N) (h1 : ∀ j (hj : j < fs.length), j < K → p fs[j] = false) (h2 : ∀ hj : K < fs.length, p fs[K] = true) :
    Calls Try.prog 22 #[.slice (some ⟨fb, 0, none⟩) N N, .func (.func 23) #[] #[]] w fun e w' => e = .returned (.bool (decide (K < N))) ∧ Below w.heap.size w w' := by
  by_cases hlt : K < N
  · have HI := Lib.hid (index2_c h p hpe K hK h1 h2 (K : Int) (by rw [if_pos hlt]))
    rw [show decide (K < N) = true from decide_eq_true hlt]
    have p0 : (0 : Int) ≤ (K : Int) := by omega
    clear h hpe h1 h2
    go_enter Try.func22, Try.ntmps22
    go_wp2_with fail
    refine Calls.mono HI.out ?_
    rintro e w2 ⟨rfl, b2⟩
    have HB := Lib.hid b2
    clear b2 HI
    go_wp2_with fail
    go_ret
    exact ⟨rfl, HB.out⟩
  · have HI := Lib.hid (index2_c h p hpe K hK h1 h2 (-1) (by rw [if_neg hlt]))
    rw [show decide (K < N) = false from decide_eq_false hlt]
    clear h hpe h1 h2
    go_enter Try.func22, Try.ntmps22
    go_wp2_with fail
    refine Calls.mono HI.out ?_
    rintro e w2 ⟨rfl, b2⟩
    have HB := Lib.hid b2
    clear b2 HI
    go_wp2_with fail
    go_ret
    exact ⟨rfl, HB.out⟩
end
end Go.Proofs.Ythmaofbnhfgfaaa
