/- What codec.Dec's Uint reads. Conditions: lengths. -/
import Derived.Test.YtoigahkgdanjnaaDecA
namespace Go.Proofs.Ytoigahkgdanjnaa
set_option linter.unusedVariables false
set_option linter.unusedSimpArgs false
open Go.RowKit
/-- What is read: an error's number, or a number and the rest. -/
def decF : Nat → BitVec 64 → List (BitVec 8) → Sum Int (BitVec 64 × List (BitVec 8))
  | _, _, [] => .inl 3
  | k, v, x :: xs => if (k ≠ 0 ∧ x = 0#8) ∨ (k = 9 ∧ 1 < x.toNat) then .inl 2 else
      if x.toNat < 128 then .inr (v ||| ((x &&& ~~~ 128#8).setWidth 64 <<< (7 * k)), xs) else decF (k + 1) (v ||| ((x &&& ~~~ 128#8).setWidth 64 <<< (7 * k))) xs
/-- What a call of fail leaves. -/
theorem fail_c (w : World) (g : Nat) (bs : List (BitVec 8)) (err e : Int) (h : DecAt w g bs err) :
    Calls Try.prog 33 #[.pointer (some ⟨g, 0, none⟩), .int .i64 e] w fun r w' => r = .returned (.tuple #[]) ∧ DecAt w' g [] e ∧ Only w w' g := by
  obtain ⟨A, c, hk, hc, hr, ha⟩ := h.ex
  obtain ⟨c1, c2⟩ := hk.two
  have f1 := hk.free 0
  have f2 := hk.free 1
  have hl := hk.lt
  have hk2 := (hk.set 0 (.slice none 0 0)).set 1 (.int .i64 e)
  have ho := (Only.set w g 0 (.slice none 0 0)).trans (Only.set _ g 1 (.int .i64 e))
  go_enter Try.func33, Try.ntmps33
  go_wp2_with fail
  go_end0
  exact ⟨rfl, ⟨none, 0, hk2, Nat.le_refl _, Rd.nil, fun a e => by cases e⟩, ho⟩
def DecP (g : Nat) (r : Sum Int (BitVec 64 × List (BitVec 8))) (w : World) (e : Ending) (w' : World) : Prop := match r with
  | .inl err => e = .returned (.int .u64 0) ∧ DecAt w' g [] err ∧ Only w w' g
  | .inr (v, rest) => e = .returned (.int .u64 (U64 v)) ∧ DecAt w' g rest 0 ∧ Only w w' g
theorem andNot128 (x : BitVec 8) : bits .andNot .u8 (U8 x) 128 = U8 (x &&& ~~~ 128#8) := by
  rw [show (128 : Int) = U8 128#8 from by decide +kernel]
  show IntKind.u8.wrap ((BitVec.ofInt 8 (U8 x) &&& ~~~BitVec.ofInt 8 (U8 128#8)).toNat : Int) = _
  rw [ofInt_U8, ofInt_U8, wrapu8]; congr 1; rw [BitVec.ofInt_natCast, BitVec.ofNat_toNat, BitVec.setWidth_eq]
theorem dec_cut {w : World} {g c n c2 m : Nat} {A A' : Option Addr} {bs : List (BitVec 8)} {v0 : Value} {err : Int} (hk : Bk w g 73 #[v0, .int .i64 err]) (hc : bs.length ≤ c) (hr : Rd b8 w w.heap.size A bs) (ha : ∀ a, A = some a → a.block ≠ g) (hA : A' = cutA A c m) (hn : n = bs.length - m) (hc2 : c2 = c - m) :
    DecAt (w.setCell ⟨g, 0, none⟩ (.slice A' n c2)) g (bs.drop m) err ∧ Only w (w.setCell ⟨g, 0, none⟩ (.slice A' n c2)) g := by
  have hl : n = (bs.drop m).length := by rw [hn, List.length_drop]
  have ha' : ∀ a, A' = some a → a.block ≠ g := by
    intro a e
    rw [hA] at e
    unfold cutA at e
    split at e
    · exact ha a e
    · cases A with
      | none => cases e
      | some b =>
        simp only [Option.map_some, Option.some.injEq] at e
        rw [← e, add_block]
        exact ha b rfl
  have ho := Only.set w g 0 (.slice A' n c2)
  refine ⟨⟨A', c2, ?_, ?_, ?_, ha'⟩, ho⟩
  · have := hk.set 0 (.slice A' n c2)
    rw [← hl]
    exact this
  · rw [← hl]; omega
  · have h2 : Rd b8 w w.heap.size A' (bs.drop m) := by rw [hA]; exact hr.cut hc
    exact h2.only ho ha'
set_option maxHeartbeats 800000
set_option maxRecDepth 100000
theorem dec_uint (w : World) (g : Nat) (bs : List (BitVec 8)) (h : DecAt w g bs 0) (hl : bs.length ≤ 1073741824) :
    Calls Try.prog 25 #[.pointer (some ⟨g, 0, none⟩)] w (DecP g (decF 0 0#64 bs) w) := by
  have hD := h
  obtain ⟨A, c, hk, hc, hr, ha⟩ := h.ex
  obtain ⟨c1, c2⟩ := hk.two
  have hgl := hk.lt
  have f1 := hk.free 0
  have z0 : (0 : Int) = U64 0#64 := by decide +kernel
  have Z0 := Lib.hid z0
  have HA := Lib.hid ha
  clear z0 ha
  go_enter Try.func25, Try.ntmps25
  go_wp2_with fail
  go_loop [3, 17] (fun v i => ∃ (k : Nat) (u : BitVec 64), k ≤ bs.length ∧ k ≤ 9 ∧ i = .int .i64 k ∧ v = .int .u64 (U64 u) ∧ Hid (decF 0 0#64 bs = decF k u (bs.drop k))) (fun _ i => bs.length - (intOf i).toNat)
  case atStart => exact ⟨0, 0#64, by omega, by omega, rfl, by rw [← Z0.out], Lib.hid rfl⟩
  case round =>
    obtain ⟨k, u, hkl, hk9, rfl, rfl, hrel⟩ := hrel
    by_cases hlt : k < bs.length
    · obtain ⟨ad, rfl, hab, hac⟩ := hr.at_ hlt
      have hd : bs.drop k = bs[k] :: bs.drop (k + 1) := List.drop_eq_getElem_cons hlt
      obtain ⟨x, hx⟩ : ∃ x, x = bs[k] := ⟨_, rfl⟩
      rw [← hx] at hac hd
      have HD : Hid (decF 0 0#64 bs = decF k u (x :: bs.drop (k + 1))) := Lib.hid (by rw [hrel.out, hd])
      unfold b8 at hac
      clear hd hx
      have p1 : (0 : Int) ≤ (k : Int) := by omega
      have p2 : (k : Int) < (bs.length : Int) := by omega
      have q1 : 7 * (k : Int) ≤ 63 := by omega
      by_cases hbad : (k ≠ 0 ∧ x = 0#8) ∨ (k = 9 ∧ 1 < x.toNat)
      · have hres : decF 0 0#64 bs = .inl 2 := by rw [HD.out]; unfold decF; rw [if_pos hbad]
        have HRES := Lib.hid hres
        clear hres
        have e8 : (0 : Int) = U8 0#8 := by decide +kernel
        rcases hbad with ⟨h0, hx0⟩ | ⟨h9, hx1⟩
        · have t1 : decide (0 < 7 * (k : Int)) = true := by simp; omega
          have t2 : (U8 x == 0) = true := by rw [hx0]; decide +kernel
          clear e8 hx0
          go_wp2_with fail
          refine Calls.mono (fail_c _ g bs 0 2 (by assumption)) ?_
          rintro e w1 ⟨rfl, hd1, ho1⟩
          go_wp2_with fail
          go_ret
          exact HRES.out ▸ ⟨rfl, hd1, ho1⟩
        · have t3 : (7 * (k : Int) == 63) = true := by rw [beq_iff_eq]; omega
          have t4 : decide (0 < 7 * (k : Int)) = true := by simp; omega
          have t1 : decide (1 < U8 x) = true := by unfold U8; simp; omega
          have t2 : (U8 x == 0) = false := by unfold U8; simp; intro h; rw [h] at hx1; simp at hx1
          clear e8 hx1 h9
          go_wp2_with fail
          refine Calls.mono (fail_c _ g bs 0 2 (by assumption)) ?_
          rintro e w1 ⟨rfl, hd1, ho1⟩
          go_wp2_with fail
          go_ret
          exact HRES.out ▸ ⟨rfl, hd1, ho1⟩
      · have tests : (k = 0) ∨ (k = 9 ∧ (U8 x == 0) = false ∧ decide (1 < U8 x) = false) ∨ (0 < k ∧ k < 9 ∧ (U8 x == 0) = false) := by
          have n0 : k ≠ 0 → (U8 x == 0) = false := by
            intro h
            rw [beq_eq_false_iff_ne]
            intro h2
            apply hbad
            left
            exact ⟨h, U8_inj (by rw [h2]; decide +kernel)⟩
          rcases Nat.eq_zero_or_pos k with h | h
          · exact .inl h
          · right
            by_cases h9 : k = 9
            · left
              refine ⟨h9, n0 (by omega), ?_⟩
              rw [decide_eq_false_iff_not]
              intro h2
              apply hbad
              right
              refine ⟨h9, ?_⟩
              unfold U8 at h2
              omega
            · right; exact ⟨h, by omega, n0 (by omega)⟩
        have hk8 : ¬ x.toNat < 128 → k < 9 := by
          intro h
          refine Decidable.byContradiction fun h9 => hbad (.inr ⟨by omega, by omega⟩)
        have e1 := andNot128 x
        obtain ⟨y, hy⟩ : ∃ y, y = x &&& ~~~ 128#8 := ⟨_, rfl⟩
        have e2 := u8_u64 y
        obtain ⟨z, hz⟩ : ∃ z, z = (y.setWidth 64 <<< (7 * k)) := ⟨_, rfl⟩
        have e3 := shlU64 (y.setWidth 64) (7 * k)
        have e5 := wrapU64 (y.setWidth 64)
        obtain ⟨u', hu⟩ : ∃ u', u' = u ||| z := ⟨_, rfl⟩
        have e4 := orU64 u z
        have n7 : (7 * (k : Int)).toNat = 7 * k := by omega
        have w7 : IntKind.i64.wrap (7 * (k : Int)) = 7 * (k : Int) := wrapIn (by omega) (by omega)
        rw [← hy] at e1
        rw [← hz] at e3
        rw [← hu] at e4
        have HU : Hid (u ||| ((x &&& ~~~ 128#8).setWidth 64 <<< (7 * k)) = u') := Lib.hid (by rw [hu, hz, hy])
        have HBAD := Lib.hid hbad
        clear hy hz hu hbad
        by_cases hsm : x.toNat < 128
        · have t5 : decide (U8 x < 128) = true := by unfold U8; simp; omega
          have HRES : Hid (decF 0 0#64 bs = .inr (u', bs.drop (k + 1))) := Lib.hid (by
            rw [HD.out]; unfold decF; rw [if_neg HBAD.out, if_pos hsm, HU.out])
          clear hsm hk8
          rcases tests with t0 | ⟨t0, t1, t2⟩ | ⟨t0, t1, t2⟩
          · have a1 : decide (0 < 7 * (k : Int)) = false := by simp; omega
            have a3 : (7 * (k : Int) == 63) = false := by rw [beq_eq_false_iff_ne]; omega
            clear t0
            rcases (show c = k + 1 ∨ k + 1 < c by omega) with hcap | hcap
            · subst hcap
              go_wp2_with fail
              go_ret
              refine HRES.out ▸ ⟨rfl, dec_cut hk hc hr HA.out ?_ (by omega) (by omega)⟩
              unfold cutA
              rw [if_pos rfl]
            · go_wp2_with fail
              go_ret
              refine HRES.out ▸ ⟨rfl, dec_cut hk hc hr HA.out ?_ (by omega) (by omega)⟩
              unfold cutA
              rw [if_neg (by omega)]; rfl
          · have a1 : decide (0 < 7 * (k : Int)) = true := by simp; omega
            have a3 : (7 * (k : Int) == 63) = true := by rw [beq_iff_eq]; omega
            clear t0
            rcases (show c = k + 1 ∨ k + 1 < c by omega) with hcap | hcap
            · subst hcap
              go_wp2_with fail
              go_ret
              refine HRES.out ▸ ⟨rfl, dec_cut hk hc hr HA.out ?_ (by omega) (by omega)⟩
              unfold cutA
              rw [if_pos rfl]
            · go_wp2_with fail
              go_ret
              refine HRES.out ▸ ⟨rfl, dec_cut hk hc hr HA.out ?_ (by omega) (by omega)⟩
              unfold cutA
              rw [if_neg (by omega)]; rfl
          · have a1 : decide (0 < 7 * (k : Int)) = true := by simp; omega
            have a3 : (7 * (k : Int) == 63) = false := by rw [beq_eq_false_iff_ne]; omega
            clear t0
            rcases (show c = k + 1 ∨ k + 1 < c by omega) with hcap | hcap
            · subst hcap
              go_wp2_with fail
              go_ret
              refine HRES.out ▸ ⟨rfl, dec_cut hk hc hr HA.out ?_ (by omega) (by omega)⟩
              unfold cutA
              rw [if_pos rfl]
            · go_wp2_with fail
              go_ret
              refine HRES.out ▸ ⟨rfl, dec_cut hk hc hr HA.out ?_ (by omega) (by omega)⟩
              unfold cutA
              rw [if_neg (by omega)]; rfl
        · have t5 : decide (U8 x < 128) = false := by unfold U8; simp; omega
          have HREL : Hid (decF 0 0#64 bs = decF (k + 1) u' (bs.drop (k + 1))) := Lib.hid (by
            rw [HD.out]
            show (if _ then _ else _) = _
            rw [if_neg HBAD.out, if_neg hsm, HU.out])
          have hk8' := hk8 hsm
          clear hsm hk8
          rcases tests with t0 | ⟨t0, t1, t2⟩ | ⟨t0, t1, t2⟩
          · have a1 : decide (0 < 7 * (k : Int)) = false := by simp; omega
            have a3 : (7 * (k : Int) == 63) = false := by rw [beq_eq_false_iff_ne]; omega
            clear t0
            go_wp2_with fail
            go_round
            case rel => exact ⟨k + 1, u', by omega, by omega, by go_num, rfl, HREL⟩
            case measure => (first | (simp [intOf]; done) | (simp [intOf]; omega))
          · exfalso; omega
          · have a1 : decide (0 < 7 * (k : Int)) = true := by simp; omega
            have a3 : (7 * (k : Int) == 63) = false := by rw [beq_eq_false_iff_ne]; omega
            clear t0
            go_wp2_with fail
            go_round
            case rel => exact ⟨k + 1, u', by omega, by omega, by go_num, rfl, HREL⟩
            case measure => (first | (simp [intOf]; done) | (simp [intOf]; omega))
    · have hkk : k = bs.length := by omega
      have HRES : Hid (decF 0 0#64 bs = .inl 3) := Lib.hid (by
        rw [hrel.out, hkk, List.drop_length]
        cases bs.length <;> rfl)
      clear hkk
      go_wp2_with fail
      refine Calls.mono (fail_c _ g bs 0 3 (by assumption)) ?_
      rintro e w1 ⟨rfl, hd1, ho1⟩
      go_wp2_with fail
      go_ret
      exact HRES.out ▸ ⟨rfl, hd1, ho1⟩
end Go.Proofs.Ytoigahkgdanjnaa
