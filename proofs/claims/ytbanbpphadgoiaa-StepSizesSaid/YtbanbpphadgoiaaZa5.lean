/- Texts joined: DecB DecC DecD LeN DecE CodA StF StG. -/
import Derived.Test.YtbanbpphadgoiaaZa4
import Derived.Test.YtbanbpphadgoiaaBitsB
import Derived.Lib.SmallJoins
import Derived.Deep.LoopGhost
/- What codec.Dec's Uint reads. Conditions: lengths. -/
namespace Go.Proofs.Ytbanbpphadgoiaa
set_option linter.unusedVariables false
set_option linter.unusedSimpArgs false
open Go.RowKit
/-- What is read: an error's number, or a number and the rest. -/
def decF : Nat → BitVec 64 → List (BitVec 8) → Sum Int (BitVec 64 × List (BitVec 8))
  | _, _, [] => .inl 3
  | k, v, x :: xs => if (k ≠ 0 ∧ x = 0#8) ∨ (k = 9 ∧ 1 < x.toNat) then .inl 2 else
      if x.toNat < 128 then .inr (v ||| ((x &&& ~~~ 128#8).setWidth 64 <<< (7 * k)), xs) else decF (k + 1) (v ||| ((x &&& ~~~ 128#8).setWidth 64 <<< (7 * k))) xs
/-- What a call of fail leaves. -/
theorem fail_c (w : World) (g : Nat) (bs : List (BitVec 8)) (err e : Int) (h : DecAt w g bs err) :
    Calls Try.prog 73 #[.pointer (some ⟨g, 0, none⟩), .int .i64 e] w fun r w' => r = .returned (.tuple #[]) ∧ DecAt w' g [] e ∧ Only w w' g := by
  obtain ⟨A, c, hk, hc, hr, ha⟩ := h.ex
  obtain ⟨c1, c2⟩ := hk.two
  have f1 := hk.free 0
  have f2 := hk.free 1
  have hl := hk.lt
  have hk2 := (hk.set 0 (.slice none 0 0)).set 1 (.int .i64 e)
  have ho := (Only.set w g 0 (.slice none 0 0)).trans (Only.set _ g 1 (.int .i64 e))
  go_enter Try.func73, Try.ntmps73
  go_wp2_with fail
  go_end0
  exact ⟨rfl, ⟨none, 0, hk2, Nat.le_refl _, Rd.nil, fun a e => by cases e⟩, ho⟩
def DecP (g : Nat) (r : Sum Int (BitVec 64 × List (BitVec 8))) (w : World) (e : Ending) (w' : World) : Prop := match r with
  | .inl err => e = .returned (.int .u64 0) ∧ DecAt w' g [] err ∧ Only w w' g
  | .inr (v, rest) => e = .returned (.int .u64 (U64 v)) ∧ DecAt w' g rest 0 ∧ Only w w' g
theorem andNot128 (x : BitVec 8) : bits .andNot .u8 (U8 x) 128 = U8 (x &&& ~~~ 128#8) := by
  rw [show (128 : Int) = U8 128#8 from by decide +kernel]
  show IntKind.u8.wrap ((BitVec.ofInt 8 (U8 x) &&& ~~~BitVec.ofInt 8 (U8 128#8)).toNat : Int) = _
  rw [ofInt_U8, ofInt_U8, wrapu8]; congr 1; rw [BitVec.ofInt_natCast, BitVec.ofNat_toNat, BitVec.setWidth_eq]
theorem dec_cut {w : World} {g c n c2 m : Nat} {A A' : Option Addr} {bs : List (BitVec 8)} {v0 : Value} {err : Int} (hk : Bk w g 123 #[v0, .int .i64 err]) (hc : bs.length ≤ c) (hr : Rd b8 w w.heap.size A bs) (ha : ∀ a, A = some a → a.block ≠ g) (hA : A' = cutA A c m) (hn : n = bs.length - m) (hc2 : c2 = c - m) :
    DecAt (w.setCell ⟨g, 0, none⟩ (.slice A' n c2)) g (bs.drop m) err ∧ Only w (w.setCell ⟨g, 0, none⟩ (.slice A' n c2)) g := by
  have hl : n = (bs.drop m).length := by rw [hn, List.length_drop]
  have ha' : ∀ a, A' = some a → a.block ≠ g := by
    intro a e
    rw [hA] at e
    unfold cutA at e
    split at e
    · exact ha a e
    · cases A with
      | none => cases e
      | some b =>
        simp only [Option.map_some, Option.some.injEq] at e
        rw [← e, add_block]
        exact ha b rfl
  have ho := Only.set w g 0 (.slice A' n c2)
  refine ⟨⟨A', c2, ?_, ?_, ?_, ha'⟩, ho⟩
  · have := hk.set 0 (.slice A' n c2)
    rw [← hl]
    exact this
  · rw [← hl]; omega
  · have h2 : Rd b8 w w.heap.size A' (bs.drop m) := by rw [hA]; exact hr.cut hc
    exact h2.only ho ha'
set_option maxHeartbeats 800000
set_option maxRecDepth 100000
theorem dec_uint (w : World) (g : Nat) (bs : List (BitVec 8)) (h : DecAt w g bs 0) (hl : bs.length ≤ 1073741824) :
    Calls Try.prog 39 #[.pointer (some ⟨g, 0, none⟩)] w (DecP g (decF 0 0#64 bs) w) := by
  have hD := h
  obtain ⟨A, c, hk, hc, hr, ha⟩ := h.ex
  obtain ⟨c1, c2⟩ := hk.two
  have hgl := hk.lt
  have f1 := hk.free 0
  have z0 : (0 : Int) = U64 0#64 := by decide +kernel
  have Z0 := Lib.hid z0
  have HA := Lib.hid ha
  clear z0 ha
  go_enter Try.func39, Try.ntmps39
  go_wp2_with fail
  go_loop [3, 17] (fun v i => ∃ (k : Nat) (u : BitVec 64), k ≤ bs.length ∧ k ≤ 9 ∧ i = .int .i64 k ∧ v = .int .u64 (U64 u) ∧ Hid (decF 0 0#64 bs = decF k u (bs.drop k))) (fun _ i => bs.length - (Go.RowKit.intOf i).toNat)
  case atStart => exact ⟨0, 0#64, by omega, by omega, rfl, by rw [← Z0.out], Lib.hid rfl⟩
  case round =>
    obtain ⟨k, u, hkl, hk9, rfl, rfl, hrel⟩ := hrel
    by_cases hlt : k < bs.length
    · obtain ⟨ad, rfl, hab, hac⟩ := hr.at_ hlt
      have hd : bs.drop k = bs[k] :: bs.drop (k + 1) := List.drop_eq_getElem_cons hlt
      obtain ⟨x, hx⟩ : ∃ x, x = bs[k] := ⟨_, rfl⟩
      rw [← hx] at hac hd
      have HD : Hid (decF 0 0#64 bs = decF k u (x :: bs.drop (k + 1))) := Lib.hid (by rw [hrel.out, hd])
      unfold b8 at hac
      clear hd hx
      have p1 : (0 : Int) ≤ (k : Int) := by omega
      have p2 : (k : Int) < (bs.length : Int) := by omega
      have q1 : 7 * (k : Int) ≤ 63 := by omega
      by_cases hbad : (k ≠ 0 ∧ x = 0#8) ∨ (k = 9 ∧ 1 < x.toNat)
      · have hres : decF 0 0#64 bs = .inl 2 := by rw [HD.out]; unfold decF; rw [if_pos hbad]
        have HRES := Lib.hid hres
        clear hres
        have e8 : (0 : Int) = U8 0#8 := by decide +kernel
        rcases hbad with ⟨h0, hx0⟩ | ⟨h9, hx1⟩
        · have t1 : decide (0 < 7 * (k : Int)) = true := by simp; omega
          have t2 : (U8 x == 0) = true := by rw [hx0]; decide +kernel
          clear e8 hx0
          go_wp2_with fail
          refine Calls.mono (fail_c _ g bs 0 2 (by assumption)) ?_
          rintro e w1 ⟨rfl, hd1, ho1⟩
          go_wp2_with fail
          go_ret
          exact HRES.out ▸ ⟨rfl, hd1, ho1⟩
        · have t3 : (7 * (k : Int) == 63) = true := by rw [beq_iff_eq]; omega
          have t4 : decide (0 < 7 * (k : Int)) = true := by simp; omega
          have t1 : decide (1 < U8 x) = true := by unfold U8; simp; omega
          have t2 : (U8 x == 0) = false := by unfold U8; simp; intro h; rw [h] at hx1; simp at hx1
          clear e8 hx1 h9
          go_wp2_with fail
          refine Calls.mono (fail_c _ g bs 0 2 (by assumption)) ?_
          rintro e w1 ⟨rfl, hd1, ho1⟩
          go_wp2_with fail
          go_ret
          exact HRES.out ▸ ⟨rfl, hd1, ho1⟩
      · have tests : (k = 0) ∨ (k = 9 ∧ (U8 x == 0) = false ∧ decide (1 < U8 x) = false) ∨ (0 < k ∧ k < 9 ∧ (U8 x == 0) = false) := by
          have n0 : k ≠ 0 → (U8 x == 0) = false := by
            intro h
            rw [beq_eq_false_iff_ne]
            intro h2
            apply hbad
            left
            exact ⟨h, U8_inj (by rw [h2]; decide +kernel)⟩
          rcases Nat.eq_zero_or_pos k with h | h
          · exact .inl h
          · right
            by_cases h9 : k = 9
            · left
              refine ⟨h9, n0 (by omega), ?_⟩
              rw [decide_eq_false_iff_not]
              intro h2
              apply hbad
              right
              refine ⟨h9, ?_⟩
              unfold U8 at h2
              omega
            · right; exact ⟨h, by omega, n0 (by omega)⟩
        have hk8 : ¬ x.toNat < 128 → k < 9 := by
          intro h
          refine Decidable.byContradiction fun h9 => hbad (.inr ⟨by omega, by omega⟩)
        have e1 := andNot128 x
        obtain ⟨y, hy⟩ : ∃ y, y = x &&& ~~~ 128#8 := ⟨_, rfl⟩
        have e2 := u8_u64 y
        obtain ⟨z, hz⟩ : ∃ z, z = (y.setWidth 64 <<< (7 * k)) := ⟨_, rfl⟩
        have e3 := shlU64 (y.setWidth 64) (7 * k)
        have e5 := wrapU64 (y.setWidth 64)
        obtain ⟨u', hu⟩ : ∃ u', u' = u ||| z := ⟨_, rfl⟩
        have e4 := orU64 u z
        have n7 : (7 * (k : Int)).toNat = 7 * k := by omega
        have w7 : IntKind.i64.wrap (7 * (k : Int)) = 7 * (k : Int) := wrapIn (by omega) (by omega)
        rw [← hy] at e1
        rw [← hz] at e3
        rw [← hu] at e4
        have HU : Hid (u ||| ((x &&& ~~~ 128#8).setWidth 64 <<< (7 * k)) = u') := Lib.hid (by rw [hu, hz, hy])
        have HBAD := Lib.hid hbad
        clear hy hz hu hbad
        by_cases hsm : x.toNat < 128
        · have t5 : decide (U8 x < 128) = true := by unfold U8; simp; omega
          have HRES : Hid (decF 0 0#64 bs = .inr (u', bs.drop (k + 1))) := Lib.hid (by
            rw [HD.out]; unfold decF; rw [if_neg HBAD.out, if_pos hsm, HU.out])
          clear hsm hk8
          rcases tests with t0 | ⟨t0, t1, t2⟩ | ⟨t0, t1, t2⟩
          · have a1 : decide (0 < 7 * (k : Int)) = false := by simp; omega
            have a3 : (7 * (k : Int) == 63) = false := by rw [beq_eq_false_iff_ne]; omega
            clear t0
            rcases (show c = k + 1 ∨ k + 1 < c by omega) with hcap | hcap
            · subst hcap
              go_wp2_with fail
              go_ret
              refine HRES.out ▸ ⟨rfl, dec_cut hk hc hr HA.out ?_ (by omega) (by omega)⟩
              unfold cutA
              rw [if_pos rfl]
            · go_wp2_with fail
              go_ret
              refine HRES.out ▸ ⟨rfl, dec_cut hk hc hr HA.out ?_ (by omega) (by omega)⟩
              unfold cutA
              rw [if_neg (by omega)]; rfl
          · have a1 : decide (0 < 7 * (k : Int)) = true := by simp; omega
            have a3 : (7 * (k : Int) == 63) = true := by rw [beq_iff_eq]; omega
            clear t0
            rcases (show c = k + 1 ∨ k + 1 < c by omega) with hcap | hcap
            · subst hcap
              go_wp2_with fail
              go_ret
              refine HRES.out ▸ ⟨rfl, dec_cut hk hc hr HA.out ?_ (by omega) (by omega)⟩
              unfold cutA
              rw [if_pos rfl]
            · go_wp2_with fail
              go_ret
              refine HRES.out ▸ ⟨rfl, dec_cut hk hc hr HA.out ?_ (by omega) (by omega)⟩
              unfold cutA
              rw [if_neg (by omega)]; rfl
          · have a1 : decide (0 < 7 * (k : Int)) = true := by simp; omega
            have a3 : (7 * (k : Int) == 63) = false := by rw [beq_eq_false_iff_ne]; omega
            clear t0
            rcases (show c = k + 1 ∨ k + 1 < c by omega) with hcap | hcap
            · subst hcap
              go_wp2_with fail
              go_ret
              refine HRES.out ▸ ⟨rfl, dec_cut hk hc hr HA.out ?_ (by omega) (by omega)⟩
              unfold cutA
              rw [if_pos rfl]
            · go_wp2_with fail
              go_ret
              refine HRES.out ▸ ⟨rfl, dec_cut hk hc hr HA.out ?_ (by omega) (by omega)⟩
              unfold cutA
              rw [if_neg (by omega)]; rfl
        · have t5 : decide (U8 x < 128) = false := by unfold U8; simp; omega
          have HREL : Hid (decF 0 0#64 bs = decF (k + 1) u' (bs.drop (k + 1))) := Lib.hid (by
            rw [HD.out]
            show (if _ then _ else _) = _
            rw [if_neg HBAD.out, if_neg hsm, HU.out])
          have hk8' := hk8 hsm
          clear hsm hk8
          rcases tests with t0 | ⟨t0, t1, t2⟩ | ⟨t0, t1, t2⟩
          · have a1 : decide (0 < 7 * (k : Int)) = false := by simp; omega
            have a3 : (7 * (k : Int) == 63) = false := by rw [beq_eq_false_iff_ne]; omega
            clear t0
            go_wp2_with fail
            go_round
            case rel => exact ⟨k + 1, u', by omega, by omega, by go_num, rfl, HREL⟩
            case measure => (first | (simp [Go.RowKit.intOf]; done) | (simp [Go.RowKit.intOf]; omega))
          · exfalso; omega
          · have a1 : decide (0 < 7 * (k : Int)) = true := by simp; omega
            have a3 : (7 * (k : Int) == 63) = false := by rw [beq_eq_false_iff_ne]; omega
            clear t0
            go_wp2_with fail
            go_round
            case rel => exact ⟨k + 1, u', by omega, by omega, by go_num, rfl, HREL⟩
            case measure => (first | (simp [Go.RowKit.intOf]; done) | (simp [Go.RowKit.intOf]; omega))
    · have hkk : k = bs.length := by omega
      have HRES : Hid (decF 0 0#64 bs = .inl 3) := Lib.hid (by
        rw [hrel.out, hkk, List.drop_length]
        cases bs.length <;> rfl)
      clear hkk
      go_wp2_with fail
      refine Calls.mono (fail_c _ g bs 0 3 (by assumption)) ?_
      rintro e w1 ⟨rfl, hd1, ho1⟩
      go_wp2_with fail
      go_ret
      exact HRES.out ▸ ⟨rfl, hd1, ho1⟩
end Go.Proofs.Ytbanbpphadgoiaa
/- What is written is what is read: numbers. What codec.Dec's Int, Left, Err answer. Conditions: lengths. -/
namespace Go.Proofs.Ytbanbpphadgoiaa
set_option linter.unusedVariables false
set_option linter.unusedSimpArgs false
open Go.RowKit
theorem low7 (cur : BitVec 64) : ((cur.setWidth 8 ||| 128#8) &&& ~~~ 128#8).setWidth 64 = cur &&& 127#64 := by
  apply BitVec.eq_of_getLsbD_eq
  intro i hi
  have e : (127#64).getLsbD i = decide (i < 7) := by
    have : ∀ j : Fin 64, (127#64).getLsbD j.val = decide (j.val < 7) := by decide +kernel
    exact this ⟨i, hi⟩
  rw [BitVec.getLsbD_and, e, BitVec.getLsbD_setWidth]
  by_cases h8 : i < 8
  · have e2 : (128#8).getLsbD i = decide (i = 7) := by
      have : ∀ j : Fin 8, (128#8).getLsbD j.val = decide (j.val = 7) := by decide +kernel
      exact this ⟨i, h8⟩
    rw [BitVec.getLsbD_and, BitVec.getLsbD_or, BitVec.getLsbD_not, e2, BitVec.getLsbD_setWidth]
    by_cases h7 : i = 7
    · simp [h7]
    · simp [h7, h8, hi, show i < 7 from by omega]
  · simp [show ¬ i < 7 from by omega, BitVec.getLsbD_of_ge _ i (show 8 ≤ i by omega)]
theorem small7 (cur : BitVec 64) (h : cur.toNat < 128) : (cur.setWidth 8 &&& ~~~ 128#8).setWidth 64 = cur ∧ (cur.setWidth 8).toNat = cur.toNat ∧ (cur.setWidth 8 = 0#8 → cur = 0#64) := by
  have : ∀ n : Fin 128, ((BitVec.ofNat 64 n.val).setWidth 8 &&& ~~~ 128#8).setWidth 64 = BitVec.ofNat 64 n.val ∧ ((BitVec.ofNat 64 n.val).setWidth 8).toNat = n.val ∧ ((BitVec.ofNat 64 n.val).setWidth 8 = 0#8 → BitVec.ofNat 64 n.val = 0#64) := by decide +kernel
  have h2 := this ⟨cur.toNat, h⟩
  simp only [BitVec.ofNat_toNat, BitVec.setWidth_eq] at h2
  exact h2
theorem or128_big (x : BitVec 8) : 128 ≤ (x ||| 128#8).toNat ∧ x ||| 128#8 ≠ 0#8 := by
  have : ∀ n : Fin 256, 128 ≤ (BitVec.ofNat 8 n.val ||| 128#8).toNat ∧ BitVec.ofNat 8 n.val ||| 128#8 ≠ 0#8 := by decide +kernel
  have h2 := this ⟨x.toNat, x.isLt⟩
  simp only [BitVec.ofNat_toNat, BitVec.setWidth_eq] at h2
  exact h2
theorem glue7 (cur : BitVec 64) (k : Nat) : ((cur &&& 127#64) <<< (7 * k)) ||| ((cur >>> 7) <<< (7 * (k + 1))) = cur <<< (7 * k) := by
  apply BitVec.eq_of_getLsbD_eq
  intro i hi
  rw [BitVec.getLsbD_or, BitVec.getLsbD_shiftLeft, BitVec.getLsbD_shiftLeft, BitVec.getLsbD_shiftLeft, BitVec.getLsbD_and, BitVec.getLsbD_ushiftRight]
  by_cases h : i < 7 * k
  · simp [h, show i < 7 * (k + 1) from by omega]
  · by_cases h2 : i < 7 * (k + 1)
    · have e : (127#64).getLsbD (i - 7 * k) = true := by
        have : ∀ j : Fin 7, (127#64).getLsbD j.val = true := by decide +kernel
        exact this ⟨i - 7 * k, by omega⟩
      simp [h, h2, hi, e]
    · have e : (127#64).getLsbD (i - 7 * k) = false := by
        have : ∀ j : Fin 64, 7 ≤ j.val → (127#64).getLsbD j.val = false := by decide +kernel
        exact this ⟨i - 7 * k, by omega⟩ (by show 7 ≤ i - 7 * k; omega)
      simp [h, h2, hi, e, show 7 + (i - 7 * (k + 1)) = i - 7 * k from by omega]
theorem decF_uintF (rest : List (BitVec 8)) : ∀ (n k : Nat) (acc cur : BitVec 64), k + n = 9 → cur.toNat < 2 ^ (7 * n + 1) → (k = 0 ∨ cur ≠ 0#64) → decF k acc (uintF n cur ++ rest) = .inr (acc ||| (cur <<< (7 * k)), rest) := by
  intro n
  induction n with
  | zero =>
    intro k acc cur hk hc h0
    have hc' : cur.toNat < 2 := by simpa using hc
    obtain ⟨s1, s2, s3⟩ := small7 cur (by omega)
    show (if _ then _ else _) = _
    rw [if_neg, if_pos (by omega), s1]; · rfl
    rintro (⟨a, b⟩ | ⟨a, b⟩)
    · rcases h0 with h0 | h0
      · exact a h0
      · exact h0 (s3 b)
    · omega
  | succ n ih =>
    intro k acc cur hk hc h0
    by_cases hs : cur.toNat < 128
    · rw [uintF_small hs]
      obtain ⟨s1, s2, s3⟩ := small7 cur hs
      show (if _ then _ else _) = _
      rw [if_neg, if_pos (by omega), s1]; · rfl
      rintro (⟨a, b⟩ | ⟨a, b⟩)
      · rcases h0 with h0 | h0
        · exact a h0
        · exact h0 (s3 b)
      · omega
    · have e : uintF (n + 1) cur = (cur.setWidth 8 ||| 128#8) :: uintF n (cur >>> 7) := if_neg hs
      obtain ⟨b1, b2⟩ := or128_big (cur.setWidth 8)
      have hsh : (cur >>> 7).toNat = cur.toNat / 128 := by rw [BitVec.toNat_ushiftRight, Nat.shiftRight_eq_div_pow]
      rw [e, List.cons_append]
      show (if _ then _ else _) = _
      rw [if_neg (by rintro (⟨_, b⟩ | ⟨a, _⟩); · exact b2 b
                     · omega), if_neg (by omega), ih (k + 1) _ _ (by omega) (by
        rw [hsh]
        rw [show 7 * (n + 1) + 1 = (7 * n + 1) + 7 from by omega, Nat.pow_add] at hc
        exact Nat.div_lt_of_lt_mul (by omega)) (.inr (by intro h; have := congrArg BitVec.toNat h; rw [hsh] at this; simp at this; omega)), low7, BitVec.or_assoc, glue7]
theorem dec_uint_back (x : BitVec 64) (rest : List (BitVec 8)) : decF 0 0#64 (uintL x ++ rest) = .inr (x, rest) := by
  have h := decF_uintF rest 9 0 0#64 x rfl (by have := x.isLt; omega) (.inl rfl)
  unfold uintL
  rw [h]
  simp
theorem decF_cut : ∀ (n k : Nat) (acc cur : BitVec 64) (m : Nat), k + n = 9 → m < (uintF n cur).length → decF k acc ((uintF n cur).take m) = .inl 3 := by
  intro n
  induction n with
  | zero =>
    intro k acc cur m _ hm
    have : m = 0 := by simp [uintF] at hm; omega
    subst this; rfl
  | succ n ih =>
    intro k acc cur m hk hm
    cases m with
    | zero => rfl
    | succ m =>
      by_cases hs : cur.toNat < 128
      · rw [uintF_small hs] at hm; simp at hm
      · have e : uintF (n + 1) cur = (cur.setWidth 8 ||| 128#8) :: uintF n (cur >>> 7) := if_neg hs
        obtain ⟨b1, b2⟩ := or128_big (cur.setWidth 8)
        rw [e] at hm ⊢
        rw [List.take_succ_cons]
        show (if _ then _ else _) = _
        rw [if_neg (by rintro (⟨_, b⟩ | ⟨a, _⟩); · exact b2 b
                       · omega), if_neg (by omega)]
        exact ih (k + 1) _ _ m (by omega) (by simpa using hm)
theorem dec_uint_cut (x : BitVec 64) (m : Nat) (h : m < (uintL x).length) : decF 0 0#64 ((uintL x).take m) = .inl 3 := decF_cut 9 0 _ _ m rfl h
/-- Back from a number without a sign. -/
def zagL (u : BitVec 64) : BitVec 64 := (u >>> 1) ^^^ (if u.getLsbD 0 then BitVec.allOnes 64 else 0#64)
theorem zag_zig (x : BitVec 64) : zagL (zigL x) = x := by
  refine lin_ext (fun x => zagL (zigL x)) (fun x => x) ?_ (fun _ _ => rfl) (by decide +kernel) x
  intro a b
  have hz : zigL (a ^^^ b) = zigL a ^^^ zigL b := by
    unfold zigL
    apply BitVec.eq_of_getLsbD_eq
    intro i hi
    simp only [BitVec.getLsbD_xor, BitVec.getLsbD_shiftLeft, BitVec.getLsbD_sshiftRight, BitVec.msb_xor]
    simp only [hi, decide_true, Bool.true_and, show ¬ 64 ≤ i from by omega, decide_false, Bool.not_false]
    split <;> cases decide (i < 1) <;> simp <;> cases a.getLsbD (i - 1) <;> cases b.getLsbD (i - 1) <;> simp
  simp only [hz]
  unfold zagL
  rw [BitVec.getLsbD_xor, shr_xor]
  generalize zigL a >>> 1 = p
  generalize zigL b >>> 1 = q
  generalize BitVec.allOnes 64 = o
  cases (zigL a).getLsbD 0 <;> cases (zigL b).getLsbD 0 <;> simp only [Bool.xor_false, Bool.false_xor, Bool.xor_self, Bool.true_xor, Bool.not_false, if_true, Bool.false_eq_true, if_false] <;> apply BitVec.eq_of_getLsbD_eq <;> intro i hi <;> simp only [BitVec.getLsbD_xor, BitVec.getLsbD_zero] <;> cases p.getLsbD i <;> cases q.getLsbD i <;> cases o.getLsbD i <;> rfl
theorem wrapI64' (v : Int) : IntKind.i64.wrap v = wrap64 v := by
  rw [IntKind.wrap_i64, wrap64]
theorem xorI64 (x y : BitVec 64) : bits .xor .i64 (I64 x) (I64 y) = I64 (x ^^^ y) := by
  show IntKind.i64.wrap ((BitVec.ofInt 64 (I64 x) ^^^ BitVec.ofInt 64 (I64 y)).toNat : Int) = _
  have h : ∀ z : BitVec 64, BitVec.ofInt 64 (I64 z) = z := fun z => by unfold I64; exact BitVec.ofInt_toInt
  rw [h, h, show IntKind.i64.wrap ((x ^^^ y).toNat : Int) = wrap64 ((x ^^^ y).toNat : Int) from wrapI64' _]
  exact u64_i64 (x ^^^ y)
theorem and1U64 (r : BitVec 64) : bits .and .u64 (U64 r) 1 = if r.getLsbD 0 then 1 else 0 := by
  rw [show (1 : Int) = U64 1#64 from by decide +kernel, andU64]
  have e : r &&& 1#64 = if r.getLsbD 0 then 1#64 else 0#64 := by
    apply BitVec.eq_of_getLsbD_eq
    intro i hi
    rw [BitVec.getLsbD_and, BitVec.getLsbD_one]
    by_cases h : i = 0
    · subst h; cases r.getLsbD 0 <;> simp
    · cases r.getLsbD 0 <;> simp [h]
  rw [e]
  cases r.getLsbD 0 <;> decide +kernel
theorem half64 (x : BitVec 64) : U64 x / (2 : Int) = U64 (x >>> 1) := by
  have h := shrU64 x 1
  rw [← h]; rfl
/-- What a reader's call leaves that answers a number with a sign. -/
def DecIP (g : Nat) (r : Sum Int (BitVec 64 × List (BitVec 8))) (w : World) (e : Ending) (w' : World) : Prop := match r with
  | .inl err => e = .returned (.int .i64 0) ∧ DecAt w' g [] err ∧ Only w w' g
  | .inr (v, rest) => e = .returned (.int .i64 (I64 (zagL v))) ∧ DecAt w' g rest 0 ∧ Only w w' g
set_option maxHeartbeats 400000
theorem dec_left (w : World) (g : Nat) (bs : List (BitVec 8)) (err : Int) (h : DecAt w g bs err) :
    Calls Try.prog 41 #[.pointer (some ⟨g, 0, none⟩)] w fun e w' => e = .returned (.int .i64 bs.length) ∧ w' = w := by
  obtain ⟨A, c, hk, hc, hr, ha⟩ := h.ex
  obtain ⟨c1, c2⟩ := hk.two
  clear ha
  go_enter Try.func41, Try.ntmps41
  go_wp2
  go_ret
  exact ⟨rfl, rfl⟩
theorem dec_err (w : World) (g : Nat) (bs : List (BitVec 8)) (err : Int) (h : DecAt w g bs err) :
    Calls Try.prog 40 #[.pointer (some ⟨g, 0, none⟩)] w fun e w' => e = .returned (.int .i64 err) ∧ w' = w := by
  obtain ⟨A, c, hk, hc, hr, ha⟩ := h.ex
  obtain ⟨c1, c2⟩ := hk.two
  clear ha
  go_enter Try.func40, Try.ntmps40
  go_wp2
  go_ret
  exact ⟨rfl, rfl⟩
end Go.Proofs.Ytbanbpphadgoiaa
/- What codec.Dec's Raw and Words read of what was written. Conditions: lengths. -/
namespace Go.Proofs.Ytbanbpphadgoiaa
set_option linter.unusedVariables false
set_option linter.unusedSimpArgs false
open Go.RowKit
theorem U64_nat (n : Nat) (h : n < 2 ^ 64) : U64 (BitVec.ofNat 64 n) = (n : Int) := by
  unfold U64
  rw [BitVec.toNat_ofNat, Nat.mod_eq_of_lt h]
theorem dec_len (w : World) (g n : Nat) (rest : List (BitVec 8)) (h : DecAt w g (uintL (BitVec.ofNat 64 n) ++ rest) 0) (hn : n < 2 ^ 64) (hl : rest.length ≤ 536870912) :
    Calls Try.prog 39 #[.pointer (some ⟨g, 0, none⟩)] w fun e w' => e = .returned (.int .u64 (n : Int)) ∧ DecAt w' g rest 0 ∧ Only w w' g := by
  have hu : (uintL (BitVec.ofNat 64 n)).length ≤ 10 := uintF_len 9 _
  have h2 := dec_uint w g _ h (by simp only [List.length_append]; omega)
  rw [dec_uint_back] at h2
  refine h2.mono fun e w' h => ?_
  obtain ⟨h3, h4, h5⟩ := h
  rw [U64_nat n hn] at h3
  exact ⟨h3, h4, h5⟩
def RawP (g : Nat) (xs rest : List (BitVec 8)) (w : World) (e : Ending) (w' : World) : Prop := ∃ A c, e = .returned (.slice A xs.length c) ∧ Rd b8 w' w'.heap.size A xs ∧ DecAt w' g rest 0 ∧ Only w w' g ∧ ∀ a, A = some a → w.heap.size ≤ a.block
theorem DecAt.below {w w' : World} {g : Nat} {bs : List (BitVec 8)} {err : Int} (h : DecAt w g bs err) (hb : Below w.heap.size w w') : DecAt w' g bs err := by
  obtain ⟨A, c, hk, hc, hr, ha⟩ := h.ex
  exact ⟨A, c, hk.below hb hk.lt, hc, (hr.below hb).more hb.size, ha⟩
theorem DecAt.lt {w : World} {g : Nat} {bs : List (BitVec 8)} {err : Int} (h : DecAt w g bs err) : g < w.heap.size := by
  obtain ⟨A, c, hk, _⟩ := h.ex
  exact hk.lt
set_option maxHeartbeats 400000
set_option maxRecDepth 100000
theorem dec_uint_short (w : World) (g : Nat) (x : BitVec 64) (m : Nat) (hm : m < (uintL x).length) (h : DecAt w g ((uintL x).take m) 0) :
    Calls Try.prog 39 #[.pointer (some ⟨g, 0, none⟩)] w fun e w' => e = .returned (.int .u64 0) ∧ DecAt w' g [] 3 ∧ Only w w' g := by
  have hu : (uintL x).length ≤ 10 := uintF_len 9 _
  have k := dec_uint w g _ h (by simp only [List.length_take]; omega)
  rw [dec_uint_cut x m hm] at k
  exact k
end Go.Proofs.Ytbanbpphadgoiaa
/- Bytes of a number, the lowest first, and that number. No conditions. -/
namespace Go.Proofs.Ytbanbpphadgoiaa
set_option linter.unusedVariables false
set_option linter.unusedSimpArgs false
open Go.RowKit
theorem leN_lowN (v : BitVec 64) : ∀ n : Nat, n ≤ 8 → ∀ i, i < 64 → (leN (lowN v n)).getLsbD i = (v.getLsbD i && decide (i < 8 * n))
  | 0, _, i, _ => by simp [lowN, leN]
  | n + 1, hn, i, hi => by
    rw [lowN_snoc, leN_snoc, BitVec.getLsbD_or, leN_lowN v n (by omega) i hi, lowN_len, BitVec.getLsbD_shiftLeft]
    by_cases a : i < 8 * n
    · have b : i < 8 * (n + 1) := by omega
      simp [a, b]
    · by_cases b : i < 8 * (n + 1)
      · simp [hi, a, b, show i - 8 * n < 8 from by omega, show 8 * n + (i - 8 * n) = i from by omega, show i - 8 * n < 64 from by omega]
      · simp [hi, a, b, show ¬ i - 8 * n < 8 from by omega]
end Go.Proofs.Ytbanbpphadgoiaa
/- What codec.Dec's Words reads of what was written. Conditions: lengths. -/
namespace Go.Proofs.Ytbanbpphadgoiaa
set_option linter.unusedVariables false
set_option linter.unusedSimpArgs false
open Go.RowKit
def flatW (ws : List (BitVec 64)) : List (BitVec 8) := (ws.map fun x => lowN x 8).flatten
theorem flatW_len (ws : List (BitVec 64)) : (flatW ws).length = 8 * ws.length := by
  unfold flatW
  induction ws with
  | nil => rfl
  | cons a l ih => simp only [List.map_cons, List.flatten_cons, List.length_append, ih, lowN_len, List.length_cons]; omega
theorem flatW_append (a b : List (BitVec 64)) : flatW (a ++ b) = flatW a ++ flatW b := by unfold flatW; rw [List.map_append, List.flatten_append]
theorem flatW_cons (x : BitVec 64) (b : List (BitVec 64)) : flatW (x :: b) = lowN x 8 ++ flatW b := rfl
theorem flatW_split (ws : List (BitVec 64)) (k : Nat) (hk : k < ws.length) : flatW ws = flatW (ws.take k) ++ (lowN ws[k] 8 ++ flatW (ws.drop (k + 1))) := by
  have h : ws = ws.take k ++ (ws[k] :: ws.drop (k + 1)) := by rw [← List.drop_eq_getElem_cons hk, List.take_append_drop]
  exact (congrArg flatW h).trans (by rw [flatW_append, flatW_cons])
theorem get_word (ws : List (BitVec 64)) (rest : List (BitVec 8)) (k : Nat) (hk : k < ws.length) : getB (flatW ws ++ rest) ((k : Int) * 8) 8 = ws[k] ∧ errB ((flatW ws ++ rest).length : Int) ((k : Int) * 8) 8 = 0 := by
  have hl := flatW_len ws
  have hin : inB ((flatW ws ++ rest).length : Int) ((k : Int) * 8) 8 = true := by
    unfold inB
    rw [decide_eq_true_eq, List.length_append]
    omega
  refine ⟨?_, by unfold errB; rw [if_pos hin]⟩
  unfold getB
  rw [if_pos hin]
  have hs : seg (flatW ws ++ rest) ((k : Int) * 8) 8 = lowN ws[k] 8 := by
    unfold seg
    have e1 : ((k : Int) * 8).toNat = 8 * k := by omega
    rw [e1, show (8 : Int).toNat = 8 from rfl, flatW_split ws k hk, List.append_assoc, List.append_assoc]
    have h1 : (flatW (ws.take k)).length = 8 * k := by rw [flatW_len, List.length_take]; omega
    rw [← h1, List.drop_left]
    rw [List.take_append_of_le_length (by rw [lowN_len]; omega), List.take_of_length_le (by rw [lowN_len]; omega)]
  rw [hs]
  apply BitVec.eq_of_getLsbD_eq
  intro i hi
  rw [leN_lowN _ 8 (by omega) i hi]
  simp [hi]
def WrdP (g : Nat) (ws : List (BitVec 64)) (rest : List (BitVec 8)) (w : World) (e : Ending) (w' : World) : Prop := ∃ q, e = .returned (.slice (some ⟨q, 0, none⟩) ws.length ws.length) ∧ Rd u64w w' w'.heap.size (some ⟨q, 0, none⟩) ws ∧ DecAt w' g rest 0 ∧ Only w w' g ∧ w.heap.size ≤ q
def partW (ws : List (BitVec 64)) (k : Nat) : List (BitVec 64) := ws.take k ++ List.replicate (ws.length - k) 0#64
theorem partW_len (ws : List (BitVec 64)) (k : Nat) (h : k ≤ ws.length) : (partW ws k).length = ws.length := by unfold partW; simp; omega
theorem part_set (ws : List (BitVec 64)) (k : Nat) (hk : k < ws.length) : (partW ws k).set k ws[k] = partW ws (k + 1) := by
  have e : List.replicate (ws.length - k) 0#64 = 0#64 :: List.replicate (ws.length - (k + 1)) 0#64 := by
    rw [← List.replicate_succ]; congr 1; omega
  unfold partW
  rw [e, take_snoc' _ _ hk, List.set_append_right _ _ (by simp; omega)]
  have e3 : k - (ws.take k).length = 0 := by simp; omega
  rw [e3, List.append_assoc]
  simp
set_option maxHeartbeats 800000
set_option maxRecDepth 100000
end Go.Proofs.Ytbanbpphadgoiaa
/- What codec.Enc's Bytes answers; the last region of loamlaw5.known. Conditions: lengths. -/
namespace Go.Proofs.Ytbanbpphadgoiaa
set_option linter.unusedVariables false
set_option linter.unusedSimpArgs false
open Go.RowKit
theorem EncAt.below {w w' : World} {B g : Nat} {v : Value} {bs : List (BitVec 8)} (h : EncAt w B g v bs) (hb : Below w.heap.size w w') : EncAt w' B g v bs := ⟨h.blk.below hb h.blk.lt, h.ge, h.row.below hb, h.ne⟩
theorem Bk.only {w w' : World} {g d : Nat} {E : TypeId} {cs : Array Value} (h : Bk w g E cs) (ho : Only w w' d) (hne : g ≠ d) : Bk w' g E cs := (ho.block g h.lt hne).trans h
/-- Block g holds a writer of the bytes bs; of w0 all below B is as it was. -/
def EncS (w0 : World) (B g : Nat) (bs : List (BitVec 8)) (w : World) : Prop := ∃ v, EncAt w B g v bs ∧ Below B w0 w
theorem EncS.below {w0 w w' : World} {B g : Nat} {bs : List (BitVec 8)} (h : EncS w0 B g bs w) (hb : Below w.heap.size w w') : EncS w0 B g bs w' := by
  obtain ⟨v, h1, h2⟩ := h
  exact ⟨v, h1.below hb, h2.trans (hb.mono (Nat.le_trans h1.ge (Nat.le_of_lt h1.blk.lt)))⟩
theorem EncS.new (w : World) : EncS w w.heap.size w.heap.size [] (w.alloc (.cells #[.slice none 0 0] 92)) :=
  ⟨.slice none 0 0, ⟨Bk.new w _ _, Nat.le_refl _, Ow.nil_ _ _ _ _, by intro h; cases h⟩, (Below.refl _ _).alloc (Nat.le_refl _) _⟩
theorem EncS.uint {w0 w : World} {B g : Nat} {bs : List (BitVec 8)} (x : BitVec 64) (h : EncS w0 B g bs w) (hl : bs.length ≤ 1073741824) :
    Calls Try.prog 43 #[.pointer (some ⟨g, 0, none⟩), .int .u64 (U64 x)] w fun e w' => e = .returned (.tuple #[]) ∧ EncS w0 B g (bs ++ uintL x) w' := by
  obtain ⟨v, h1, h2⟩ := h
  refine (enc_uint w B g v bs x h1 hl).mono ?_
  rintro e w' ⟨rfl, v', h3, h4⟩
  exact ⟨rfl, v', h3, h2.trans (h4.below h1)⟩
theorem EncS.apart {w0 w : World} {B g k : Nat} {bs : List (BitVec 8)} {v : Value} (h : EncAt w B g v bs) (hk : w.heap.size ≤ k) : k ≠ g ∧ v.ownBlock ≠ some k := by
  refine ⟨fun e => by have := h.blk.lt; omega, fun e => ?_⟩
  have := (h.row.lt k e).2
  omega
/-- Block g holds a writer of bytes that are read. -/
def EncR (g : Nat) (bs : List (BitVec 8)) (w : World) : Prop := ∃ A c, Bk w g 92 #[.slice A bs.length c] ∧ Rd b8 w w.heap.size A bs
theorem EncS.out {w0 w : World} {B g : Nat} {bs : List (BitVec 8)} (h : EncS w0 B g bs w) : EncR g bs w ∧ Below B w0 w ∧ B ≤ g ∧ g < w.heap.size := by
  obtain ⟨v, h1, h2⟩ := h
  obtain ⟨A, c, e, hc⟩ := h1.row.form
  subst e
  exact ⟨⟨A, c, h1.blk, h1.row.rd⟩, h2, h1.ge, h1.blk.lt⟩
theorem EncR.below {w w' : World} {g : Nat} {bs : List (BitVec 8)} (h : EncR g bs w) (hb : Below w.heap.size w w') : EncR g bs w' := by
  obtain ⟨A, c, h1, h2⟩ := h
  exact ⟨A, c, h1.below hb h1.lt, (h2.below hb).more hb.size⟩
theorem EncR.only {w w' : World} {g d B : Nat} {bs : List (BitVec 8)} (h : ∃ A c, Bk w g 92 #[.slice A bs.length c] ∧ Rd b8 w B A bs) (ho : Only w w' d) (hB : B ≤ d) (hg : g ≠ d) : ∃ A c, Bk w' g 92 #[.slice A bs.length c] ∧ Rd b8 w' B A bs := by
  obtain ⟨A, c, h1, h2⟩ := h
  refine ⟨A, c, h1.only ho hg, fun j hj => ?_⟩
  obtain ⟨ad, e, hb, hc⟩ := h2 j hj
  refine ⟨ad, e, hb, ?_⟩
  rw [← hc]
  rcases Nat.lt_or_ge ad.block w.heap.size with hl | hl
  · exact World.cell?_of_block (by rw [add_block]; exact ho.block _ hl (by omega))
  · have hn : w.cell? (ad.add j) = none := by
      unfold World.cell?
      rw [add_block, Array.getElem?_eq_none hl]
    rw [hn] at hc
    cases hc
theorem enc_bytes (w : World) (g : Nat) (bs : List (BitVec 8)) (h : EncR g bs w) (hl : bs.length ≤ 1073741824) : Calls Try.prog 44 #[.pointer (some ⟨g, 0, none⟩)] w (CloneP bs w) := by
  obtain ⟨A, c, hk, hr⟩ := h
  have c0 := hk.cell 0
  have hgl := hk.lt
  have HC := Lib.hid (clone_c bs A c w hr hl)
  obtain ⟨N, hN⟩ : ∃ N, N = bs.length := ⟨_, rfl⟩
  rw [← hN] at c0 HC
  have HN := Lib.hid hN
  clear hk hr hN
  go_enter Try.func44, Try.ntmps44
  go_wp2_with fail
  refine Calls.mono HC.out ?_
  rintro e w1 ⟨A2, c2, rfl, h2, r2, b2, a2⟩
  go_wp2_with fail
  go_ret
  exact ⟨A2, c2, rfl, h2, r2, b2, a2⟩
end Go.Proofs.Ytbanbpphadgoiaa
/- A collector's result and state. Conditions: lengths. -/
namespace Go.Proofs.Ytbanbpphadgoiaa
set_option linter.unusedVariables false
set_option linter.unusedSimpArgs false
open Go.RowKit Go.Maps
set_option maxHeartbeats 1000000
set_option maxRecDepth 100000
/-- A row of ints of its own. -/
def RzV (B n : Nat) (xs : List Int) (x : Value) (w : World) : Prop := ∃ A c, x = .slice A n c ∧ Ow zV 3 w B (.slice A n c) xs
theorem RzV.mono {B n : Nat} {xs : List Int} {x : Value} {a b : World} (h : RzV B n xs x a) (g : Gw a b) : RzV B n xs x b := by
  obtain ⟨A, c, e, h⟩ := h
  exact ⟨A, c, e, h.below g⟩
theorem of_sp {w w1 : World} {C : Nat} {ws : List (BitVec 64)} {t : Nat} (hs : w.heap.size ≤ w1.heap.size) (h : Calls Try.prog 45 #[.pointer (some ⟨C, 0, none⟩)] w1 fun r w' => ∃ s' g' v', r = .returned (.pointer (some ⟨s', 0, none⟩)) ∧ SpAt w' w1.heap.size s' g' v' ws 0 t ws.length ∧ Below w1.heap.size w1 w') :
    Calls Try.prog 45 #[.pointer (some ⟨C, 0, none⟩)] w1 fun e w2 => ∃ u, e = .returned u ∧ Below w1.heap.size w1 w2 ∧ SpV w.heap.size ws 0 t ws.length u w2 :=
  Calls.mono h fun e w' ⟨s', g', v', e1, h1, h2⟩ => ⟨_, e1, h2, s', g', v', rfl, ⟨⟨h1.mem.blk, Nat.le_trans hs h1.mem.ge, h1.mem.row.mono hs, h1.mem.ne⟩, h1.blk, h1.sg, h1.sv, Nat.le_trans hs h1.hs, h1.bt, h1.te, h1.el⟩⟩
theorem of_icl {w w1 : World} {A : Option Addr} {n c : Nat} {xs : List Int} (hn : n = xs.length) (hs : w.heap.size ≤ w1.heap.size) (h : Calls Try.prog 33 #[.slice A xs.length c] w1 fun r w' => ∃ A2 c2, r = .returned (.slice A2 xs.length c2) ∧ Ow zV 3 w' w1.heap.size (.slice A2 xs.length c2) xs ∧ Below w1.heap.size w1 w') :
    Calls Try.prog 33 #[.slice A n c] w1 fun e w2 => ∃ u, e = .returned u ∧ Below w1.heap.size w1 w2 ∧ RzV w.heap.size n xs u w2 := by
  subst hn
  exact Calls.mono h fun e w' ⟨A2, c2, e1, h1, h2⟩ => ⟨_, e1, h2, A2, c2, rfl, h1.mono hs⟩
theorem re5 (Q : Exit → Act → World → Prop) (a0 : Act) (w : World) (D C i c t : Nat) (A : Option Addr) (ws : List (BitVec 64)) (xs : List Int) (hQ : D < w.heap.size) (hi : i = xs.length) (d0 : w.cell? ⟨D, 0, none⟩ = some (.pointer (some ⟨C, 0, none⟩))) (d2 : w.cell? ⟨D, 2, none⟩ = some (.slice A i c)) (hp : Hid (∀ W, Below w.heap.size w W → Calls Try.prog 45 #[.pointer (some ⟨C, 0, none⟩)] W fun r w' => ∃ s' g' v', r = .returned (.pointer (some ⟨s', 0, none⟩)) ∧ SpAt w' W.heap.size s' g' v' ws 0 t ws.length ∧ Below W.heap.size W w')) (hq : Hid (∀ W, Below w.heap.size w W → Calls Try.prog 33 #[.slice A xs.length c] W fun r w' => ∃ A2 c2, r = .returned (.slice A2 xs.length c2) ∧ Ow zV 3 w' W.heap.size (.slice A2 xs.length c2) xs ∧ Below W.heap.size W w')) (hsz : a0.tmps.size = 22) (sl0 : a0.tmps.getD 0 undef = .pointer (some ⟨D, 0, none⟩))
    (fin : ∀ (vals : Nat → Value) (w1 : World), Below w.heap.size w w1 → (SpV w.heap.size ws 0 t ws.length) (vals 10) w1 → (RzV w.heap.size i xs) (vals 11) w1 → (IsV (.int .i64 0)) (vals 12) w1 → Q .normal (putD vals [12, 13, 14, 15, 16, 17, 18, 19, 20, 21, 2, 3, 4] 0 a0) w1) :
    (Code.region 5 (regIn Try.f17 5) true).wp Try.prog Q a0 w := by
  refine region_by (G := fun w w1 => Below w.heap.size w w1) [IsV (.pointer (some ⟨D, 0, none⟩)),
    IsV (.pointer (some ⟨D, 0, none⟩)),
    IsV (.pointer (some ⟨D, 0, none⟩)),
    IsV (.pointer (some ⟨C, 0, none⟩)),
    SpV w.heap.size ws 0 t ws.length,
    IsV (.pointer (some ⟨D, 0, none⟩)),
    IsV (.pointer (some ⟨D, 0, none⟩)),
    IsV (.pointer (some ⟨D, 2, none⟩)),
    IsV (.slice A i c),
    RzV w.heap.size i xs,
    SpV w.heap.size ws 0 t ws.length,
    RzV w.heap.size i xs,
    IsV (.int .i64 0)]
    [12, 13, 14, 15, 16, 17, 18, 19, 20, 21, 2, 3, 4] (by kernel_rfl) (Gw.drew _) Gw.trans (by rw [hsz]; kernel_rfl) (by kernel_rfl) ?_ ?_ ?_
  · intro f hf
    simp only [List.mem_cons, List.not_mem_nil, or_false] at hf
    rcases hf with rfl | rfl | rfl | rfl | rfl | rfl | rfl | rfl | rfl | rfl | rfl | rfl | rfl <;> intro v a b h g <;> first | exact IsV.mono h | exact SpV.mono h g | exact RzV.mono h g
  · refine ⟨?_, ?_, ?_, ?_, ?_, ?_, ?_, ?_, ?_, ?_, ?_, ?_, ?_, trivial⟩
    · exact owes_mv 0 (by kernel_rfl) (by kernel_rfl) (by kernel_rfl) sl0 (fun _ => rfl)
    · refine owes_v (Go.Op.nilCheck (Go.Operand.tmp 12)) 0 [0] (by kernel_rfl) (by kernel_rfl) (by kernel_rfl) rfl fun vals w1 ρ hG hF hρ hcst hfun => ?_
      have e12 : ρ (.tmp 12) = .pointer (some ⟨D, 0, none⟩) := ((hρ 12).trans (slotJ [0] (by rw [hsz]; decide) (by kernel_rfl))).trans (hF 0 (by decide))
      clear hρ hF hcst hfun sl0 fin
      exact opv_val (by go_simp <;> rfl) ⟨gw_self _, rfl⟩
    · refine owes_v (Go.Op.fieldAddr 84 (Go.Operand.tmp 13) 0) 0 [1] (by kernel_rfl) (by kernel_rfl) (by kernel_rfl) rfl fun vals w1 ρ hG hF hρ hcst hfun => ?_
      have e13 : ρ (.tmp 13) = .pointer (some ⟨D, 0, none⟩) := ((hρ 13).trans (slotJ [1] (by rw [hsz]; decide) (by kernel_rfl))).trans (hF 1 (by decide))
      clear hρ hF hcst hfun sl0 fin
      exact opv_val (by go_simp <;> rfl) ⟨gw_self _, rfl⟩
    · refine owes_v (Go.Op.load 79 (Go.Operand.tmp 14)) 79 [2] (by kernel_rfl) (by kernel_rfl) (by kernel_rfl) rfl fun vals w1 ρ hG hF hρ hcst hfun => ?_
      have e14 : ρ (.tmp 14) = .pointer (some ⟨D, 0, none⟩) := ((hρ 14).trans (slotJ [2] (by rw [hsz]; decide) (by kernel_rfl))).trans (hF 2 (by decide))
      have k := (hG.cell (p := ⟨D, 0, none⟩) hQ).trans d0
      clear hρ hF hcst hfun sl0 fin
      exact opv_val (by go_simp <;> rfl) ⟨gw_self _, rfl⟩
    · refine owes_v (Go.Op.call { callee := Go.Callee.value (Go.Operand.func 45), args := #[Go.Operand.tmp 15], argTypes := #[79] }) 26 [3] (by kernel_rfl) (by kernel_rfl) (by kernel_rfl) rfl fun vals w1 ρ hG hF hρ hcst hfun => ?_
      have e15 : ρ (.tmp 15) = .pointer (some ⟨C, 0, none⟩) := ((hρ 15).trans (slotJ [3] (by rw [hsz]; decide) (by kernel_rfl))).trans (hF 3 (by decide))
      clear hρ hF hcst sl0 fin
      exact opv_enter (by go_simp <;> rfl) (of_sp hG.size (hp.out w1 hG))
    · exact owes_mv 0 (by kernel_rfl) (by kernel_rfl) (by kernel_rfl) sl0 (fun _ => rfl)
    · refine owes_v (Go.Op.nilCheck (Go.Operand.tmp 17)) 0 [5] (by kernel_rfl) (by kernel_rfl) (by kernel_rfl) rfl fun vals w1 ρ hG hF hρ hcst hfun => ?_
      have e17 : ρ (.tmp 17) = .pointer (some ⟨D, 0, none⟩) := ((hρ 17).trans (slotJ [5] (by rw [hsz]; decide) (by kernel_rfl))).trans (hF 5 (by decide))
      clear hρ hF hcst hfun sl0 fin
      exact opv_val (by go_simp <;> rfl) ⟨gw_self _, rfl⟩
    · refine owes_v (Go.Op.fieldAddr 84 (Go.Operand.tmp 18) 2) 0 [6] (by kernel_rfl) (by kernel_rfl) (by kernel_rfl) rfl fun vals w1 ρ hG hF hρ hcst hfun => ?_
      have e18 : ρ (.tmp 18) = .pointer (some ⟨D, 0, none⟩) := ((hρ 18).trans (slotJ [6] (by rw [hsz]; decide) (by kernel_rfl))).trans (hF 6 (by decide))
      clear hρ hF hcst hfun sl0 fin
      exact opv_val (by go_simp <;> rfl) ⟨gw_self _, rfl⟩
    · refine owes_v (Go.Op.load 23 (Go.Operand.tmp 19)) 23 [7] (by kernel_rfl) (by kernel_rfl) (by kernel_rfl) rfl fun vals w1 ρ hG hF hρ hcst hfun => ?_
      have e19 : ρ (.tmp 19) = .pointer (some ⟨D, 2, none⟩) := ((hρ 19).trans (slotJ [7] (by rw [hsz]; decide) (by kernel_rfl))).trans (hF 7 (by decide))
      have k := (hG.cell (p := ⟨D, 2, none⟩) hQ).trans d2
      clear hρ hF hcst hfun sl0 fin
      exact opv_val (by go_simp <;> rfl) ⟨gw_self _, rfl⟩
    · refine owes_v (Go.Op.call { callee := Go.Callee.value (Go.Operand.func 33), args := #[Go.Operand.tmp 20], argTypes := #[23] }) 23 [8] (by kernel_rfl) (by kernel_rfl) (by kernel_rfl) rfl fun vals w1 ρ hG hF hρ hcst hfun => ?_
      have e20 : ρ (.tmp 20) = .slice A i c := ((hρ 20).trans (slotJ [8] (by rw [hsz]; decide) (by kernel_rfl))).trans (hF 8 (by decide))
      clear hρ hF hcst sl0 fin
      exact opv_enter (by go_simp <;> rfl) (of_icl hi hG.size (hq.out w1 hG))
    · exact owes_mvj 4 16 (by kernel_rfl) (by kernel_rfl) (by kernel_rfl) (by kernel_rfl) (by rw [hsz]; decide) (fun v w h => h)
    · exact owes_mvj 9 21 (by kernel_rfl) (by kernel_rfl) (by kernel_rfl) (by kernel_rfl) (by rw [hsz]; decide) (fun v w h => h)
    · refine owes_v (Go.Op.assign (Go.Operand.const (Go.Value.int Go.IntKind.i64 0))) 32 [] (by kernel_rfl) (by kernel_rfl) (by kernel_rfl) rfl fun vals w1 ρ hG hF hρ hcst hfun => ?_
      clear hρ hF hfun sl0 fin
      exact opv_val (by go_simp <;> rfl) ⟨gw_self _, rfl⟩
  · intro vals w1 hG hF
    exact fin vals w1 hG (hF 10 (by decide +kernel)) (hF 11 (by decide +kernel)) (hF 12 (by decide +kernel))
section
variable {B Q : Nat} {S : Nat → Prop} {f : CoF} {roots : List Int} {xw : Value} {s : Sc}
theorem result_full (w : World) {c : Int} (p : CoAt w B S Q f roots xw s c true) : Calls Try.prog 17 #[.pointer (some ⟨Q, 0, none⟩)] w (RetP (.tuple #[.pointer none, .slice none 0 0, .int .i64 6]) w) := by
  obtain ⟨c0, c1, c2, c3, c4, c5⟩ := p.blk.six
  clear p
  go_enter Try.func17, Try.ntmps17
  go_wp2_with fail
  go_ret3
  exact ⟨rfl, Below.refl _ _⟩
theorem result_busy (w : World) {c : Int} (p : CoAt w B S Q f roots xw s c false) (hrl : roots.length ≤ 100000) (hql : s.qs.length ≤ 100000) (hd : doneS (roots.map rootP) s = false) : Calls Try.prog 17 #[.pointer (some ⟨Q, 0, none⟩)] w (RetP (.tuple #[.pointer none, .slice none 0 0, .int .i64 8]) w) := by
  have hdd : decide (s.qs.length = roots.length ∧ s.sc = s.c.top) = false := by rw [← hd]; unfold doneS; rw [List.length_map]
  have HD := Lib.hid (done_c w p hrl hql)
  rw [hdd] at HD
  obtain ⟨c0, c1, c2, c3, c4, c5⟩ := p.blk.six
  clear p hdd hd
  go_enter Try.func17, Try.ntmps17
  go_wp2_with fail
  refine Calls.mono HD.out ?_
  rintro r w2 ⟨rfl, b2⟩
  have H2 := Lib.hid b2
  clear b2
  go_wp2_with fail
  go_ret3
  exact ⟨rfl, H2.out⟩
theorem result_c (w : World) {c : Int} (p : CoAt w B S Q f roots xw s c false) (hrl : roots.length ≤ 100000) (hql : s.qs.length ≤ 100000) (hTl : s.c.T.length ≤ 8192) (hd : doneS (roots.map rootP) s = true) : Calls Try.prog 17 #[.pointer (some ⟨Q, 0, none⟩)] w fun r w' => ∃ s' g' v' A2 c2, r = .returned (.tuple #[.pointer (some ⟨s', 0, none⟩), .slice A2 s.qs.length c2, .int .i64 0]) ∧ SpAt w' w.heap.size s' g' v' s.c.T 0 s.c.top s.c.T.length ∧ Ow zV 3 w' w.heap.size (.slice A2 s.qs.length c2) (backZ s.qs) ∧ Below w.heap.size w w' := by
  have hdd : decide (s.qs.length = roots.length ∧ s.sc = s.c.top) = true := by rw [← hd]; unfold doneS; rw [List.length_map]
  have HD := Lib.hid (done_c w p hrl hql)
  rw [hdd] at HD
  obtain ⟨A, c, A2, c2, e1, e2⟩ := p.form
  have hk := p.blk
  have hw := p.ww
  rw [e1, e2] at hk
  rw [e1] at hw
  obtain ⟨k0, k1, k2, k3, k4, k5⟩ := hk.six
  have hi : s.qs.length = (backZ s.qs).length := by simp [backZ]
  have hQ := p.blk.lt
  have HP := Lib.hid p
  have hrw : Rd zV w w.heap.size A (backZ s.qs) := by
    have := hw
    rw [hi] at this
    exact this.rd
  have HRw := Lib.hid hrw
  obtain ⟨N, hN⟩ : ∃ N, N = roots.length := ⟨_, rfl⟩
  rw [← hN] at k1
  have HL := Lib.hid (show (backZ s.qs).length ≤ 1073741824 by simp [backZ]; omega)
  obtain ⟨xs, hxs⟩ : ∃ xs, xs = backZ s.qs := ⟨_, rfl⟩
  rw [← hxs] at HRw HL hi
  obtain ⟨i, hii⟩ : ∃ i, i = s.qs.length := ⟨_, rfl⟩
  rw [← hii] at k2 hi ⊢
  rw [← hxs]
  clear hk hw e1 e2 p hdd hd hrw hN hxs hii hql hrl
  go_enter Try.func17, Try.ntmps17
  go_wp2_with fail
  refine Calls.mono HD.out ?_
  rintro r w2 ⟨rfl, b2⟩
  have H2 := Lib.hid b2
  have e0 := (b2.cell (p := ⟨Q, 0, none⟩) hQ).trans k0
  have e2 := (b2.cell (p := ⟨Q, 2, none⟩) hQ).trans k2
  have hQ2 := Nat.lt_of_lt_of_le hQ b2.size
  clear b2 k0 k1 k2 k3 k4 k5
  go_wp2_with fail
  refine re5 _ _ _ Q f.C i c s.c.top A s.c.T xs hQ2 hi e0 e2 (Lib.hid fun W hW => cspace_c W (HP.out.cy.below (H2.out.trans (hW.mono H2.out.size))) hTl) (Lib.hid fun W hW => iclone_z xs A c W ((HRw.out.below (H2.out.trans (hW.mono H2.out.size))).more (H2.out.trans (hW.mono H2.out.size)).size) HL.out) rfl ?_ ?_
  · rfl
  intro vals w3 hG h2 h3 h4
  obtain ⟨s', g', v', e2', hsp⟩ := h2
  obtain ⟨A3, c3, e3', how⟩ := h3
  unfold IsV at h4
  simp only [putD, Act.put, List.setIfInBounds_toArray, List.set_cons_zero, List.set_cons_succ, e2', e3', h4]
  have H3 := Lib.hid (And.intro hsp (And.intro how hG))
  clear hsp how hG e2' e3' h4 e0 e2
  go_wp2_with fail
  go_ret3
  have hs2 := H2.out.size
  have h1 := H3.out.1
  exact ⟨s', g', v', A3, c3, rfl, ⟨⟨h1.mem.blk, Nat.le_trans hs2 h1.mem.ge, h1.mem.row.mono hs2, h1.mem.ne⟩, h1.blk, h1.sg, h1.sv, Nat.le_trans hs2 h1.hs, h1.bt, h1.te, h1.el⟩, H3.out.2.1.mono hs2, H2.out.trans (H3.out.2.2.mono hs2)⟩
theorem stU64 (c : Nat) (h : c < 18446744073709551616) : U64 (BitVec.ofNat 64 c) = (c : Int) := by
  unfold U64
  rw [BitVec.toNat_ofNat, Nat.mod_eq_of_lt (by omega)]
theorem state_c (w : World) (c : Nat) (hc : c < 9223372036854775807) (p : CoAt w B S Q f roots xw s c false) : Calls Try.prog 14 #[.pointer (some ⟨Q, 0, none⟩)] w (CloneP (uintL (BitVec.ofNat 64 c)) w) := by
  obtain ⟨c0, c1, c2, c3, c4, c5⟩ := p.blk.six
  rw [← stU64 c (by omega)] at c4
  obtain ⟨u, hu⟩ : ∃ u, u = U64 (BitVec.ofNat 64 c) := ⟨_, rfl⟩
  rw [← hu] at c4
  have hQ := p.blk.lt
  have HE0 := Lib.hid (show Calls Try.prog 43 #[.pointer (some ⟨w.heap.size, 0, none⟩), .int .u64 u] (w.alloc (.cells #[.slice none 0 0] 92)) fun e w' => e = .returned (.tuple #[]) ∧ EncS w w.heap.size w.heap.size (uintL (BitVec.ofNat 64 c)) w' from by rw [hu]; exact (EncS.new w).uint (BitVec.ofNat 64 c) (by simp))
  have HL := Lib.hid (show (uintL (BitVec.ofNat 64 c)).length ≤ 1073741824 from by have := uintF_len 9 (BitVec.ofNat 64 c); unfold uintL; omega)
  clear p hc hu
  go_enter Try.func14, Try.ntmps14
  go_wp2_with fail
  refine Calls.mono HE0.out ?_
  rintro r w2 ⟨rfl, h2⟩
  have H2 := Lib.hid h2
  clear h2 c0 c1 c2 c3 c4 c5
  obtain ⟨v2, x1, x2⟩ := H2.out
  obtain ⟨A, n, e, _⟩ := x1.row.form
  have HX := Lib.hid x2
  have HY := Lib.hid (enc_bytes w2 w.heap.size (uintL (BitVec.ofNat 64 c)) ⟨A, n, e ▸ x1.blk, (e ▸ x1.row : Ow b8 5 w2 w.heap.size (.slice A _ n) _).rd⟩ HL.out)
  clear x1 x2 e
  go_wp2_with fail
  refine Calls.mono HY.out ?_
  rintro r w3 ⟨A3, c3, rfl, h3, r3, b3, a3⟩
  have H3 := Lib.hid (And.intro h3 (And.intro r3 (And.intro b3 a3)))
  clear h3 r3 b3 a3
  go_wp2_with fail
  go_ret
  exact ⟨A3, c3, rfl, H3.out.1, H3.out.2.1, HX.out.trans (H3.out.2.2.1.mono HX.out.size), fun a ha => ⟨Nat.le_trans HX.out.size (H3.out.2.2.2 a ha).1, (H3.out.2.2.2 a ha).2⟩⟩
end
end Go.Proofs.Ytbanbpphadgoiaa
/- A collector out of a state: Resume. Conditions: lengths. -/
namespace Go.Proofs.Ytbanbpphadgoiaa
set_option linter.unusedVariables false
set_option linter.unusedSimpArgs false
open Go.RowKit Go.Maps
/-- So many times what is next; none where there is nothing more, or no room. -/
def reS (ps : List Nat) : Nat → Sc → Option Sc
  | 0, s => some s
  | k + 1, s => if doneS ps s = true then none else match onceS ps s with
    | none => none
    | some s' => reS ps k s'
theorem Only.below_ {w w' : World} {g B : Nat} (h : Only w w' g) (hB : B ≤ g) (hs : B ≤ w.heap.size) : Below B w w' := ⟨h.os, h.tape, h.output, h.size, fun k hk => h.block k (by omega) (by omega)⟩
theorem Only.kept_ {w w' : World} {g : Nat} (h : Only w w' g) : Kept (fun k => k = g) w w' := ⟨h.os, h.tape, h.output, h.size, fun k hk hn => h.block k hk hn⟩
/-- What Resume answers. -/
def ResP (w : World) (b t : Nat) (roots : List Int) (n : Nat) (x : Option Sc) (r : Ending) (w' : World) : Prop := match x with
  | some s' => ∃ (S : Nat → Prop) (Q : Nat) (f : CoF) (xw : Value), r = .returned (.tuple #[.pointer (some ⟨Q, 0, none⟩), .int .i64 0]) ∧ CoAt w' w.heap.size S Q f roots xw s' n false ∧ f.b = b ∧ f.t = t ∧ Below w.heap.size w w'
  | none => RetP (.tuple #[.pointer none, .int .i64 2]) w r w'
def stR (ps : List Nat) (ws : List (BitVec 64)) (m : Nat) (st : List (BitVec 8)) : Option Sc := match decF 0 0#64 st with
  | .inr (v, []) => reS ps v.toNat (NewS ws m)
  | _ => none
def stN (st : List (BitVec 8)) : Nat := match decF 0 0#64 st with
  | .inr (v, _) => v.toNat
  | .inl _ => 0
set_option maxHeartbeats 4000000
set_option maxRecDepth 100000
theorem resume_bad (w : World) (s : Value) (A A2 : Option Addr) (n c n2 c2 : Nat) (words E : Int) (hE : E ≠ 0) (HN : Hid (Calls Try.prog 10 #[s, .slice A n c, .int .i64 words] w (RetP (.tuple #[.pointer none, .int .i64 E]) w))) :
    Calls Try.prog 13 #[s, .slice A n c, .int .i64 words, .slice A2 n2 c2] w (RetP (.tuple #[.pointer none, .int .i64 E]) w) := by
  go_enter Try.func13, Try.ntmps13
  go_wp2_with fail
  refine Calls.mono HN.out ?_
  rintro r w2 ⟨rfl, b2⟩
  have H2 := Lib.hid b2
  clear b2
  go_wp2_with fail
  go_ret2
  exact ⟨rfl, H2.out⟩
theorem decF_err : ∀ (bs : List (BitVec 8)) (k : Nat) (v : BitVec 64) (e : Int), decF k v bs = .inl e → e = 2 ∨ e = 3
  | [], _, _, e, h => by injection h with h; exact .inr h.symm
  | x :: xs, k, v, e, h => by
    unfold decF at h
    by_cases h1 : (k ≠ 0 ∧ x = 0#8) ∨ (k = 9 ∧ 1 < x.toNat)
    · rw [if_pos h1] at h; injection h with h; exact .inl h.symm
    · rw [if_neg h1] at h
      by_cases h2 : x.toNat < 128
      · rw [if_pos h2] at h; cases h
      · rw [if_neg h2] at h
        exact decF_err xs _ _ e h
theorem decF_rest : ∀ (bs : List (BitVec 8)) (k : Nat) (v : BitVec 64) {x : BitVec 64} {r : List (BitVec 8)}, decF k v bs = .inr (x, r) → r.length ≤ bs.length
  | [], _, _, _, _, h => by cases h
  | y :: xs, k, v, x, r, h => by
    unfold decF at h
    by_cases h1 : (k ≠ 0 ∧ y = 0#8) ∨ (k = 9 ∧ 1 < y.toNat)
    · rw [if_pos h1] at h; cases h
    · rw [if_neg h1] at h
      by_cases h2 : y.toNat < 128
      · rw [if_pos h2] at h
        injection h with h
        injection h with h3 h4
        subst h4
        simp
      · rw [if_neg h2] at h
        have := decF_rest xs _ _ h
        simp; omega
theorem resume_c (w : World) (B s g : Nat) (v : Value) (ws : List (BitVec 64)) (b t e : Nat) (p : SpAt w B s g v ws b t e) (hl : ws.length ≤ 8192) (l : List Nat) (H : Heap ws l b t) (A : Option Addr) (roots : List Int) (c : Nat) (hr : Rd zV w w.heap.size A roots) (hR : RootsOk l roots) (hrw : ∀ r ∈ roots, kW r) (m : Nat) (hm : m ≤ 8192) (hE : checkE ws b t roots = 0) (A2 : Option Addr) (st : List (BitVec 8)) (c2 : Nat) (hst : Rd b8 w w.heap.size A2 st) (hsl : st.length ≤ 1073741824) :
    Calls Try.prog 13 #[.pointer (some ⟨s, 0, none⟩), .slice A roots.length c, .int .i64 m, .slice A2 st.length c2] w (ResP w b t roots (stN st) (stR (roots.map rootP) ws m st)) := by
  have HN := Lib.hid (snew_ok w B s g v ws b t e p hl A roots c hr hR.2 hrw m hm hE)
  have HO := Lib.hid (fun W (hb : Below w.heap.size w W) => of_c st A2 c2 W ((hst.below hb).more hb.size) hsl)
  have HH := Lib.hid H
  have HR := Lib.hid hR
  have HM := Lib.hid (And.intro (show SI ws l b t m (roots.map rootP) (NewS ws m) from si_start H hm) (show measS m (roots.map rootP) (NewS ws m) ≤ 108192 from by
    have h1 := hR.2
    show ((roots.map rootP).length - 0) + (m - 0) ≤ 108192
    rw [List.length_map]; omega))
  have HSl := Lib.hid hsl
  obtain ⟨R, hR0⟩ : ∃ R, R = stR (roots.map rootP) ws m st := ⟨_, rfl⟩
  obtain ⟨T0, hT0⟩ : ∃ T, T = stN st := ⟨_, rfl⟩
  rw [← hR0, ← hT0]
  have HR0 := Lib.hid (And.intro hR0 hT0)
  clear hR0 hT0
  obtain ⟨n, hn⟩ : ∃ n, n = roots.length := ⟨_, rfl⟩
  obtain ⟨n2, hn2⟩ : ∃ n, n = st.length := ⟨_, rfl⟩
  rw [← hn] at HN ⊢
  rw [← hn2] at HO ⊢
  clear p hl hr hrw hm hE hst hn hn2 H hR hsl
  go_enter Try.func13, Try.ntmps13
  go_wp2_with fail
  refine Calls.mono HN.out ?_
  rintro r w2 ⟨S, Q, f, xw, rfl, p2, fb, ft, b2⟩
  have H2 := Lib.hid (And.intro p2 (And.intro fb (And.intro ft b2)))
  clear p2 fb ft b2
  go_wp2_with fail
  refine Calls.mono (HO.out w2 H2.out.2.2.2) ?_
  rintro r w3 ⟨d, rfl, hd1, hd2, hd3, b3⟩
  have H3 := Lib.hid (And.intro hd1 (And.intro hd2 (And.intro hd3 b3)))
  clear hd1 hd2 hd3 b3
  go_wp2_with fail
  have hdec := dec_uint w3 d st H3.out.2.2.1 HSl.out
  cases hF : decF 0 0#64 st with
  | inl er =>
    rw [hF] at hdec
    have hR : stR (roots.map rootP) ws m st = none := by unfold stR; rw [hF]
    have her := decF_err st _ _ er hF
    have HRR := Lib.hid (HR0.out.1.trans hR)
    refine Calls.mono hdec ?_
    rintro r w4 ⟨rfl, h4, o4⟩
    have H4 := Lib.hid (And.intro h4 o4)
    have HE4 := Lib.hid (dec_err w4 d [] er h4)
    have hne : ¬ er = 0 := by omega
    clear hdec hF hR h4 o4 her
    go_wp2_with fail
    refine Calls.mono HE4.out ?_
    rintro r w5 ⟨rfl, hw5⟩
    subst hw5
    go_wp2_with fail
    go_ret2
    have hb3 := H2.out.2.2.2.trans (H3.out.2.2.2.mono H2.out.2.2.2.size)
    rw [HRR.out]
    exact ⟨rfl, hb3.trans (H4.out.2.below_ (Nat.le_trans H2.out.2.2.2.size H3.out.1) hb3.size)⟩
  | inr z =>
    obtain ⟨x, rest⟩ := z
    rw [hF] at hdec
    have hrl := decF_rest st _ _ hF
    refine Calls.mono hdec ?_
    rintro r w4 ⟨rfl, h4, o4⟩
    have H4 := Lib.hid (And.intro h4 o4)
    have HE4 := Lib.hid (dec_err w4 d rest 0 h4)
    have HL4 := Lib.hid (dec_left w4 d rest 0 h4)
    have HF := Lib.hid hF
    have hRn : stN st = x.toNat := by unfold stN; rw [hF]
    obtain ⟨T, hT⟩ : ∃ T, T = x.toNat := ⟨_, rfl⟩
    have hTl : (T : Int) < 18446744073709551616 := by have := x.isLt; omega
    have hU : U64 x = (T : Int) := by unfold U64; rw [hT]
    rw [hU]
    have HT := Lib.hid hT
    have HT0 := Lib.hid (show T0 = T from by rw [HR0.out.2, hRn, hT])
    have hrest : (rest.length : Int) ≤ 1073741824 := by have := HSl.out; omega
    clear hdec hF h4 o4 hRn hT hU hrl
    by_cases hre : rest = []
    · subst hre
      have hRR : stR (roots.map rootP) ws m st = reS (roots.map rootP) T (NewS ws m) := by unfold stR; rw [HF.out, HT.out]
      have hR : R = reS (roots.map rootP) T (NewS ws m) := HR0.out.1.trans hRR
      have hb3 := H2.out.2.2.2.trans (H3.out.2.2.2.mono H2.out.2.2.2.size)
      have hb4 : Below w.heap.size w w4 := hb3.trans (H4.out.2.below_ (Nat.le_trans H2.out.2.2.2.size H3.out.1) hb3.size)
      have p4 : CoAt w4 w.heap.size S Q f roots xw (NewS ws m) 0 false := (H2.out.1.below H3.out.2.2.2).kept H4.out.2.kept_ (fun j hj e => by have h1 := (H2.out.1.own j hj).2; have h2 := H3.out.1; omega)
      have HS := Lib.hid (show ∃ (S' : Nat → Prop) (xw' : Value) (s' : Sc) (c' : Nat), CoAt w4 w.heap.size S' Q f roots xw' s' c' false ∧ SI ws l f.b f.t m (roots.map rootP) s' ∧ Below w.heap.size w w4 ∧ c' + measS m (roots.map rootP) s' ≤ 108192 ∧ c' + T = T ∧ reS (roots.map rootP) T s' = R from ⟨S, xw, NewS ws m, 0, p4, by rw [H2.out.2.1, H2.out.2.2.1]; exact HM.out.1, hb4, by have := HM.out.2; omega, by omega, hR.symm⟩)
      have HFf := Lib.hid (And.intro H2.out.2.1 H2.out.2.2.1)
      clear hRR hR hb3 hb4 p4
      go_wp2_with fail
      refine Calls.mono HE4.out ?_
      rintro r w5 ⟨rfl, hw5⟩
      subst hw5
      go_wp2_with fail
      refine Calls.mono HL4.out ?_
      rintro r w5 ⟨rfl, hw5⟩
      subst hw5
      clear H2 H3 H4 HE4 HL4 HN HO HM
      go_wp2_with fail
      go_loopg [36] T (fun gk x W => Hid (∃ (S' : Nat → Prop) (xw' : Value) (s' : Sc) (c' : Nat), CoAt W w.heap.size S' Q f roots xw' s' c' false ∧ SI ws l f.b f.t m (roots.map rootP) s' ∧ Below w.heap.size w W ∧ c' + measS m (roots.map rootP) s' ≤ 108192 ∧ c' + gk = T ∧ reS (roots.map rootP) gk s' = R))
      case atStart => exact HS
      case round =>
        have hS := hrel
        clear hrel
        obtain ⟨S', xw', s', c', e1, e2, e3, e4, e5, e6⟩ := hS.out
        have hql := e2.qs
        rw [List.length_map] at hql
        have HD := Lib.hid (fun W (hb : Below wr.heap.size wr W) => done_c W (e1.below hb) HR.out.2 (by have := HR.out.2; omega))
        have hdd : decide (s'.qs.length = roots.length ∧ s'.sc = s'.c.top) = doneS (roots.map rootP) s' := by unfold doneS; rw [List.length_map]
        rw [hdd] at HD
        clear HS
        have HE := Lib.hid (And.intro e1 (And.intro e2 (And.intro e3 e5)))
        obtain ⟨c0, c1, c2', c3, c4, c5⟩ := e1.blk.six
        have t0 : (c' : Int) ≤ 108192 := by omega
        by_cases hz : gk = 0
        · have p1 : ¬ (c' : Int) < (T : Int) := by omega
          have hR : R = some s' := by rw [hz] at e6; exact e6.symm
          have hcT : c' = T := by omega
          have HRe := Lib.hid (And.intro hR hcT)
          clear hS e1 e2 e3 e4 e5 e6 hql hdd hR hcT hz
          go_wp2_with fail
          go_ret2
          rw [HRe.out.1, HT0.out, ← HRe.out.2]
          exact ⟨S', Q, f, xw', rfl, HE.out.1, HFf.out.1, HFf.out.2, HE.out.2.2.1⟩
        · obtain ⟨j, hj⟩ : ∃ j, gk = j + 1 := ⟨gk - 1, by omega⟩
          subst hj
          have p1 : (c' : Int) < (T : Int) := by omega
          unfold reS at e6
          cases hb : doneS (roots.map rootP) s' with
          | true =>
            rw [hb] at HD e6
            have hR : R = none := e6.symm.trans (if_pos rfl)
            have HRe := Lib.hid hR
            clear hS e1 e2 e3 e4 e5 e6 hql hdd hR hb hz
            go_wp2_with fail
            refine Calls.mono (HD.out wr (Below.refl _ _)) ?_
            rintro r w6 ⟨rfl, b6⟩
            have H6 := Lib.hid b6
            clear b6 c0 c1 c2' c3 c4 c5
            go_wp2_with fail
            go_ret2
            rw [HRe.out]
            exact ⟨rfl, HE.out.2.2.1.trans (H6.out.mono HE.out.2.2.1.size)⟩
          | false =>
            rw [hb] at HD e6
            have HOc := Lib.hid (fun W (hB : Below wr.heap.size wr W) => once_c W c' (show Heap ws l f.b f.t by rw [HFf.out.1, HFf.out.2]; exact HH.out) HR.out (e1.below hB) e2 hb (by omega))
            cases ho : onceS (roots.map rootP) s' with
            | none =>
              rw [ho] at HOc e6
              have HRe := Lib.hid (show R = none from e6.symm.trans (if_neg (by simp)))
              have HOn := Lib.hid (show ∀ W, Below wr.heap.size wr W → Calls Try.prog 42 #[.pointer (some ⟨Q, 0, none⟩)] W (fun r w' => r = .returned (.int .i64 6) ∧ Kept S' W w' ∧ ∃ s', CoAt w' w.heap.size S' Q f roots xw' s' c' false) from HOc.out)
              clear hS e1 e2 e3 e4 e5 e6 hql hdd hb HOc ho hz
              go_wp2_with fail
              refine Calls.mono (HD.out wr (Below.refl _ _)) ?_
              rintro r w6 ⟨rfl, b6⟩
              have H6 := Lib.hid b6
              clear b6 c0 c1 c2' c3 c4 c5
              go_wp2_with fail
              refine Calls.mono (HOn.out w6 H6.out) ?_
              rintro r w7 ⟨rfl, k7, s7, p7⟩
              have H7 := Lib.hid k7
              clear k7 p7
              go_wp2_with fail
              go_ret2
              rw [HRe.out]
              have hb6 := HE.out.2.2.1.trans (H6.out.mono HE.out.2.2.1.size)
              exact ⟨rfl, hb6.trans (H7.out.below hb6.size (fun k hk => (HE.out.1.own k hk).1))⟩
            | some s2 =>
              rw [ho] at HOc e6
              have e6 : reS (roots.map rootP) j s2 = R := (if_neg (by simp)).symm.trans e6
              obtain ⟨i1, i2⟩ := e2.once (show Heap ws l f.b f.t by rw [HFf.out.1, HFf.out.2]; exact HH.out) HR.out.ps hb ho
              have HNx := Lib.hid (And.intro i1 (And.intro (show (c' + 1) + measS m (roots.map rootP) s2 ≤ 108192 by omega) (And.intro (show (c' + 1) + j = T by omega) e6)))
              have HOn := Lib.hid (show ∀ W, Below wr.heap.size wr W → Calls Try.prog 42 #[.pointer (some ⟨Q, 0, none⟩)] W (fun r w' => r = .returned (.int .i64 0) ∧ Kept S' W w' ∧ ∃ (S2 : Nat → Prop) (xw2 : Value), CoAt w' w.heap.size S2 Q f roots xw2 s2 ((c' + 1 : Nat) : Int) false ∧ ∀ k, S2 k → S' k ∨ W.heap.size ≤ k) from HOc.out)
              clear hS e1 e2 e3 e4 e5 e6 hql hdd hb HOc ho i1 i2 hz
              go_wp2_with fail
              refine Calls.mono (HD.out wr (Below.refl _ _)) ?_
              rintro r w6 ⟨rfl, b6⟩
              have H6 := Lib.hid b6
              clear b6 c0 c1 c2' c3 c4 c5
              go_wp2_with fail
              refine Calls.mono (HOn.out w6 H6.out) ?_
              rintro r w7 ⟨rfl, k7, S2, xw2, p7, n7⟩
              have hb6 := HE.out.2.2.1.trans (H6.out.mono HE.out.2.2.1.size)
              have H7 := Lib.hid (show ∃ (S' : Nat → Prop) (xw' : Value) (s' : Sc) (c' : Nat), CoAt w7 w.heap.size S' Q f roots xw' s' c' false ∧ SI ws l f.b f.t m (roots.map rootP) s' ∧ Below w.heap.size w w7 ∧ c' + measS m (roots.map rootP) s' ≤ 108192 ∧ c' + j = T ∧ reS (roots.map rootP) j s' = R from
                ⟨S2, xw2, s2, c' + 1, p7, HNx.out.1, hb6.trans (k7.below hb6.size (fun k hk => (HE.out.1.own k hk).1)), HNx.out.2.1, HNx.out.2.2.1, HNx.out.2.2.2⟩)
              clear k7 p7 n7 hb6
              go_wp2_with fail
              go_roundg j
              case measure => omega
              case rel => exact H7
    · have hRR : stR (roots.map rootP) ws m st = none := by
        unfold stR
        rw [HF.out]
        cases rest with
        | nil => exact absurd rfl hre
        | cons y ys => rfl
      have HRR := Lib.hid (HR0.out.1.trans hRR)
      have hlr : (0 : Int) < (rest.length : Int) := by
        cases rest with
        | nil => exact absurd rfl hre
        | cons y ys => simp
      obtain ⟨rl, hrl⟩ : ∃ rl : Int, rl = (rest.length : Int) := ⟨_, rfl⟩
      rw [← hrl] at HL4 hlr
      clear hRR hre hrl hrest
      go_wp2_with fail
      refine Calls.mono HE4.out ?_
      rintro r w5 ⟨rfl, hw5⟩
      subst hw5
      go_wp2_with fail
      refine Calls.mono HL4.out ?_
      rintro r w5 ⟨rfl, hw5⟩
      subst hw5
      go_wp2_with fail
      go_ret2
      have hb3 := H2.out.2.2.2.trans (H3.out.2.2.2.mono H2.out.2.2.2.size)
      rw [HRR.out]
      exact ⟨rfl, hb3.trans (H4.out.2.below_ (Nat.le_trans H2.out.2.2.2.size H3.out.1) hb3.size)⟩
end Go.Proofs.Ytbanbpphadgoiaa
