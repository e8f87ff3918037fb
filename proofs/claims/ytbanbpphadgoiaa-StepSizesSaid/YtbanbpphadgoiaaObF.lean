/- obj.Well. Conditions: lengths. -/
import Derived.Test.YtbanbpphadgoiaaObE
namespace Go.Proofs.Ytbanbpphadgoiaa
set_option linter.unusedVariables false
set_option linter.unusedSimpArgs false
open Go.RowKit Go.Maps
section
variable {ops : Array Oper} {rest : List Oper} {o : Oper} {a : Act} {w : World} {Q : Exit → Act → World → Prop} {b : Nat} {m : List Int}
theorem wp_putI (hg : o.guard = none) (mm x v : Operand) (hop : o.op = Op.mapUpdate 134 mm x v)
    (hm : a.eval mm = .map (some b)) (h : SetI w b m) (p : Int) (hx : a.eval x = .int .i64 p) (hv : a.eval v = .agg #[]) (hp : kW p) (hl : m.length ≤ 1000000)
    (hK : ∀ w', SetI w' b (addS m p) → Kept (fun c => some b = some c) w w' → wpList Try.prog ops Q rest (a.put o.dst undef) w') : wpList Try.prog ops Q (o :: rest) a w := by
  refine wpList_plain hg fun K' hK' => ?_
  obtain ⟨w', hrun, r1, r2⟩ := h.put hp (by unfold maxLen; omega)
  unfold Oper.wp
  simp [execOp, hop, hm, hx, hv, hrun, Result.andThen]
  exact hK' _ _ (hK w' r1 r2)
end
theorem mk_set (W : World) (n : Int) : (Instr.makeMap 134 (some (.int .i64 n))).run Try.prog W = .ok (.map (some W.heap.size)) (W.alloc (.map #[] 0)) := by
  simp [Instr.makeMap, run_underlying Try.underlying134, asInt, asIntOf, Result.andThen]
theorem mem_addS {m : List Int} {p q : Int} : q ∈ addS m p ↔ q ∈ m ∨ q = p := by
  unfold addS
  split
  · rename_i h
    constructor
    · exact .inl
    · rintro (h1 | rfl)
      · exact h1
      · exact h
  · rw [List.mem_append, List.mem_singleton]
theorem addS_len {m : List Int} {p : Int} : (addS m p).length ≤ m.length + 1 := by
  unfold addS
  split
  · omega
  · rw [List.length_append]; exact Nat.le_refl _
theorem objF_mem {ws : List (BitVec 64)} {top : Nat} : ∀ (n a : Nat) (l : List Nat), objF ws top n a = some l → ∀ x ∈ l, a ≤ x ∧ x < top ∧ goodX (ws.getD x 0#64) (top - x) = true
  | 0, a, l, h, x, hx => by injection h with h; subst h; cases hx
  | n + 1, a, l, h, x, hx => by
    have e : objF ws top (n + 1) a = if a < top then (if goodX (ws.getD a 0#64) (top - a) = true then (objF ws top n (a + szX (ws.getD a 0#64))).map (a :: ·) else none) else some [] := rfl
    rw [e] at h
    by_cases c : a < top
    · rw [if_pos c] at h
      by_cases d : goodX (ws.getD a 0#64) (top - a) = true
      · rw [if_pos d] at h
        cases hr : objF ws top n (a + szX (ws.getD a 0#64)) with
        | none => rw [hr] at h; cases h
        | some r =>
          rw [hr] at h
          injection h with h
          subst h
          rcases List.mem_cons.1 hx with rfl | hx
          · exact ⟨Nat.le_refl _, c, d⟩
          · have := objF_mem n _ r hr x hx
            exact ⟨by omega, this.2⟩
      · rw [if_neg d] at h; cases h
    · rw [if_neg c] at h
      injection h with h
      subst h
      cases hx
theorem objF_len {ws : List (BitVec 64)} {top : Nat} : ∀ (n a : Nat) (l : List Nat), objF ws top n a = some l → l.length ≤ n
  | 0, a, l, h => by injection h with h; subst h; exact Nat.le_refl _
  | n + 1, a, l, h => by
    have e : objF ws top (n + 1) a = if a < top then (if goodX (ws.getD a 0#64) (top - a) = true then (objF ws top n (a + szX (ws.getD a 0#64))).map (a :: ·) else none) else some [] := rfl
    rw [e] at h
    by_cases c : a < top
    · rw [if_pos c] at h
      by_cases d : goodX (ws.getD a 0#64) (top - a) = true
      · rw [if_pos d] at h
        cases hr : objF ws top n (a + szX (ws.getD a 0#64)) with
        | none => rw [hr] at h; cases h
        | some r =>
          rw [hr] at h
          injection h with h
          subst h
          have := objF_len n _ r hr
          rw [List.length_cons]; omega
      · rw [if_neg d] at h; cases h
    · rw [if_neg c] at h
      injection h with h
      subst h
      exact Nat.zero_le _
/-- Does pointer k of the object at a place lead to one of some, or nowhere? -/
def ptrN (ws : List (BitVec 64)) (l : List Nat) (a k : Nat) : Bool := decide ((ws.getD (a + 1 + k) 0#64).toNat = 0 ∨ (1 ≤ (ws.getD (a + 1 + k) 0#64).toNat ∧ (ws.getD (a + 1 + k) 0#64).toNat - 1 ∈ l))
def padN (ws : List (BitVec 64)) (a : Nat) : Bool := padB ws (8 * (a + 1 + P0 (ws.getD a 0#64)) + B0 (ws.getD a 0#64)) (8 * (a + szX (ws.getD a 0#64)) - (8 * (a + 1 + P0 (ws.getD a 0#64)) + B0 (ws.getD a 0#64)))
def wellN (ws : List (BitVec 64)) (l : List Nat) (a : Nat) : Bool := (List.range (P0 (ws.getD a 0#64))).all (ptrN ws l a) && padN ws a
def wellE (ws : List (BitVec 64)) (b t : Nat) : Int := match objF ws t (t + 1) b with
  | none => 2
  | some l => if l.all (wellN ws l) = true then 0 else 2
theorem well_none {ws : List (BitVec 64)} {b t : Nat} (h : objF ws t (t + 1) b = none) : wellE ws b t = 2 := by unfold wellE; rw [h]
theorem well_some {ws : List (BitVec 64)} {b t : Nat} {l : List Nat} (h : objF ws t (t + 1) b = some l) : wellE ws b t = if l.all (wellN ws l) = true then 0 else 2 := by unfold wellE; rw [h]
theorem all_no {α : Type} {f : α → Bool} {l : List α} {x : α} (hx : x ∈ l) (h : f x = false) : ¬ l.all f = true := fun e => by
  have := List.all_eq_true.1 e x hx
  rw [h] at this; cases this
set_option maxHeartbeats 4000000
set_option maxRecDepth 100000
theorem well_c (w : World) (B s g : Nat) (v : Value) (ws : List (BitVec 64)) (b t e : Nat) (p : SpAt w B s g v ws b t e) (hl : ws.length ≤ 8192) :
    Calls Try.prog 79 #[.pointer (some ⟨s, 0, none⟩)] w (RetP (.int .i64 (wellE ws b t)) w) := by
  have HOb := Lib.hid (objects_c w B s g v ws b t e p (by omega))
  obtain ⟨R, hR⟩ : ∃ R, R = wellE ws b t := ⟨_, rfl⟩
  rw [← hR]
  have HR := Lib.hid hR
  have HP := Lib.hid p
  have HL := Lib.hid hl
  have HT := Lib.hid (show t ≤ 8192 from by have := p.te; have := p.el; omega)
  clear hR p hl
  cases ho : objF ws t (t + 1) b with
  | none =>
    rw [ho] at HOb
    have HOb2 := Lib.hid (show Calls Try.prog 25 #[.pointer (some ⟨s, 0, none⟩)] w (RetP (.tuple #[.slice none 0 0, .int .i64 2]) w) from HOb.out)
    obtain rfl : R = 2 := by rw [HR.out]; exact well_none ho
    clear HOb ho HR
    go_enter Try.func79, Try.ntmps79
    go_wp2_with fail
    refine Calls.mono HOb2.out ?_
    rintro r w2 ⟨rfl, b2⟩
    have HB2 := Lib.hid b2
    clear b2
    go_wp2_with fail
    go_ret
    exact ⟨rfl, HB2.out⟩
  | some l =>
    rw [ho] at HOb
    have HOb2 := Lib.hid (show Calls Try.prog 25 #[.pointer (some ⟨s, 0, none⟩)] w (MkEP iN 3 l 0 w) from HOb.out)
    have HRl := Lib.hid (show R = if l.all (wellN ws l) = true then 0 else 2 from by rw [HR.out]; exact well_some ho)
    have HMem := Lib.hid (objF_mem _ _ _ ho)
    have hlen := objF_len _ _ _ ho
    obtain ⟨N, hN⟩ : ∃ N, N = l.length := ⟨_, rfl⟩
    have qN : (N : Int) ≤ 8193 := by have := HT.out; omega
    have HN := Lib.hid hN
    clear HOb ho HR hlen hN
    go_enter Try.func79, Try.ntmps79
    go_wp2_with fail
    refine Calls.mono HOb2.out ?_
    rintro r w2 ⟨A, c, rfl, hc, ho, b2⟩
    have HB2 := Lib.hid b2
    have HRd := Lib.hid ho.rd
    rw [← HN.out]
    clear hc ho b2
    have hmk := mk_set w2 (N : Int)
    go_wp2_with fail
    clear hmk
    obtain ⟨mb, hmb⟩ : ∃ mb, mb = w2.heap.size := ⟨_, rfl⟩
    obtain ⟨w3, hw3⟩ : ∃ w3, w3 = w2.alloc (.map #[] 0) := ⟨_, rfl⟩
    have hb3 : Below w2.heap.size w2 w3 := by rw [hw3]; exact Gw.alloc w2 _
    have hs3 : SetI w3 mb [] := by rw [hw3, hmb]; exact SetI.made w2
    rw [← hmb, ← hw3]
    have H3 := Lib.hid (And.intro hb3 (And.intro hs3 hmb))
    clear hmb hw3 hb3 hs3
    go_loopw [30] (fun i W => ∃ k : Nat, i = .int .i64 k ∧ k ≤ N ∧ Hid (Below w2.heap.size w2 W ∧ ∃ M, SetI W mb M ∧ (∀ x : Int, x ∈ M ↔ ∃ y ∈ l.take k, x = (y : Int)) ∧ M.length ≤ k)) (fun i _ => N - (Go.RowKit.intOf i).toNat)
    case atStart => exact ⟨0, rfl, Nat.zero_le _, Lib.hid ⟨H3.out.1, [], H3.out.2.1, fun x => by simp, Nat.zero_le _⟩⟩
    case round =>
      obtain ⟨k, rfl, hk, hS⟩ := hrel
      by_cases hlt : k < N
      · have hkl : k < l.length := by rw [← HN.out]; exact hlt
        obtain ⟨y, hy⟩ : ∃ y, y = l[k] := ⟨_, rfl⟩
        obtain ⟨hb, M, hM, hMi, hMl⟩ := hS.out
        obtain ⟨ad, rfl, _, hc⟩ := (HRd.out.below hb) k hkl
        rw [← hy] at hc
        unfold iN at hc
        have hyt := (HMem.out y (by rw [hy]; exact List.getElem_mem _)).2.1
        have hkw : kW (y : Int) := wfI (by omega) (by have := HT.out; omega)
        have HK := Lib.hid (And.intro hkw (show M.length ≤ 1000000 from by omega))
        have HSt := Lib.hid hM
        have HNx := Lib.hid (show ∀ (W : World), Kept (fun c => some mb = some c) wr W → SetI W mb (addS M (y : Int)) → (Below w2.heap.size w2 W ∧ ∃ M, SetI W mb M ∧ (∀ x : Int, x ∈ M ↔ ∃ z ∈ l.take (k + 1), x = (z : Int)) ∧ M.length ≤ k + 1) from fun W hk2 hs2 => by
          refine ⟨hb.trans (hk2.below hb.size (fun c e => by injection e with e; have := H3.out.2.2; omega)), _, hs2, fun x => ?_, Nat.le_trans addS_len (by omega)⟩
          rw [mem_addS, hMi, List.take_succ_eq_append_getElem hkl, ← hy]
          constructor
          · rintro (⟨z, hz, rfl⟩ | rfl)
            · exact ⟨z, List.mem_append.2 (.inl hz), rfl⟩
            · exact ⟨y, by simp, rfl⟩
          · rintro ⟨z, hz, rfl⟩
            rcases List.mem_append.1 hz with hz | hz
            · exact .inl ⟨z, hz, rfl⟩
            · right; rw [List.mem_singleton.1 hz])
        have p1 : (0 : Int) ≤ (k : Int) := by omega
        have p2 : (k : Int) < (N : Int) := by omega
        clear hy hb hM hMi hMl hyt hkw hkl
        go_wp2_with (at_mapUpdate; refine wp_putI rfl (.tmp 34) (.tmp 35) (.tmp 36) rfl rfl HSt.out (y : Int) rfl rfl HK.out.1 HK.out.2 ?_; intro w8 h8 k8; have HX := Lib.hid (HNx.out w8 k8 h8); clear h8 k8)
        clear hc
        go_roundw
        case rel => first | exact ⟨k + 1, by go_num, by omega, HX⟩ | exact ⟨_, ⟨k + 1, by go_num, by omega, HX⟩, rfl⟩
        case measure => simp [Go.RowKit.intOf]; omega
      · have hkN : k = N := by omega
        obtain ⟨hb, M, hM, hMi, hMl⟩ := hS.out
        rw [hkN, List.take_of_length_le (by rw [← HN.out]; exact Nat.le_refl _)] at hMi
        obtain ⟨w5, hw5⟩ : ∃ w5, w5 = wr := ⟨_, rfl⟩
        rw [← hw5] at hb hM ⊢
        have H5 := Lib.hid (And.intro (HB2.out.trans (hb.mono HB2.out.size)) (And.intro hM hMi))
        have HRd5 := Lib.hid (HRd.out.below hb)
        have hw2 := hb.size
        clear hS hb hM hMi hMl hkN hw5
        go_wp2_with fail
        clear hlt hk
        go_loopw [40] (fun i W => ∃ k : Nat, i = .int .i64 k ∧ k ≤ N ∧ Hid ((l.take k).all (wellN ws l) = true) ∧ Hid (Below w5.heap.size w5 W)) (fun i _ => N - (Go.RowKit.intOf i).toNat)
        case atStart => exact ⟨0, rfl, Nat.zero_le _, Lib.hid rfl, Lib.hid (Below.refl _ _)⟩
        case round =>
          obtain ⟨k, rfl, hk, hW, hB⟩ := hrel
          by_cases hlt : k < N
          · have hkl : k < l.length := by rw [← HN.out]; exact hlt
            obtain ⟨a, ha⟩ : ∃ a, a = l[k] := ⟨_, rfl⟩
            have ham : a ∈ l := by rw [ha]; exact List.getElem_mem _
            obtain ⟨hab, hat, hag⟩ := HMem.out a ham
            obtain ⟨ad, rfl, _, hc⟩ := (HRd5.out.below (hB.out.mono hw2)) k hkl
            rw [← ha] at hc
            unfold iN at hc
            have HLk := Lib.hid (look_ok wr B s g v ws b t e (HP.out.below (H5.out.1.trans (hB.out.mono H5.out.1.size))) (by have := HL.out; omega) a hab hat hag)
            have HPt := Lib.hid (fun W (hb : Below w5.heap.size w5 W) (j : Nat) (hj : j < P0 (ws.getD a 0#64)) => Ptr_c W B s g v ws b t e (HP.out.below (H5.out.1.trans (hb.mono H5.out.1.size))) HL.out a j hab hat hag hj)
            have HPd := Lib.hid (fun W (hb : Below w5.heap.size w5 W) => padded_c W B s g v ws b t e (HP.out.below (H5.out.1.trans (hb.mono H5.out.1.size))) (by have := HL.out; omega) a hat hag)
            have HTk := Lib.hid (show l.take (k + 1) = l.take k ++ [a] from by rw [List.take_succ_eq_append_getElem hkl, ha])
            obtain ⟨PD, hPD⟩ : ∃ q, q = padN ws a := ⟨_, rfl⟩
            have hpd0 : padB ws (8 * (a + 1 + P0 (ws.getD a 0#64)) + B0 (ws.getD a 0#64)) (8 * (a + szX (ws.getD a 0#64)) - (8 * (a + 1 + P0 (ws.getD a 0#64)) + B0 (ws.getD a 0#64))) = PD := by rw [hPD]; rfl
            rw [hpd0] at HPd
            have hPb := (head_of hag).2.1
            obtain ⟨P, hP'⟩ : ∃ P, P = P0 (ws.getD a 0#64) := ⟨_, rfl⟩
            obtain ⟨BN, hN'⟩ : ∃ P, P = B0 (ws.getD a 0#64) := ⟨_, rfl⟩
            have hwn : wellN ws l a = ((List.range P).all (ptrN ws l a) && PD) := by rw [hP', hPD]; rfl
            have HWn := Lib.hid (And.intro hwn ham)
            rw [← hP', ← hN'] at HLk HPd
            rw [← hP'] at HPt hPb
            have p1 : (0 : Int) ≤ (k : Int) := by omega
            have p2 : (k : Int) < (N : Int) := by omega
            have q3 : (P : Int) ≤ 64 := by omega
            clear ha ham hab hat hag hPD hpd0 hPb hP' hN' hwn hkl
            go_wp2_with fail
            refine Calls.mono HLk.out ?_
            rintro r w6 ⟨rfl, b6⟩
            have HB6 := Lib.hid (hB.out.trans (b6.mono hB.out.size))
            clear b6 hc
            go_wp2_with fail
            obtain ⟨hx, hhx⟩ : ∃ hx, hx = w6.heap.size := ⟨_, rfl⟩
            obtain ⟨w7, hw7⟩ : ∃ w7, w7 = w6.alloc (.cells #[.int .i64 P, .int .i64 BN, .bool false, .int .i64 0] 76) := ⟨_, rfl⟩
            have hb7 : Below w6.heap.size w6 w7 := by rw [hw7]; exact Gw.alloc w6 _
            have hk7 : Bk w7 hx 76 #[.int .i64 P, .int .i64 BN, .bool false, .int .i64 0] := by rw [hw7, hhx]; exact Bk.new w6 _ _
            rw [← hhx, ← hw7]
            have H7 := Lib.hid (And.intro (HB6.out.trans (hb7.mono HB6.out.size)) hk7)
            clear hhx hw7 hb7 hk7
            go_loopw [55] (fun i W => ∃ j : Nat, i = .int .i64 j ∧ j ≤ P ∧ Hid ((List.range j).all (ptrN ws l a) = true) ∧ Hid (Below w7.heap.size w7 W)) (fun i _ => P - (Go.RowKit.intOf i).toNat)
            case atStart => exact ⟨0, rfl, Nat.zero_le _, Lib.hid rfl, Lib.hid (Below.refl _ _)⟩
            case round =>
              clear hlt hk
              obtain ⟨j, rfl, hj, hA, hB7⟩ := hrel
              by_cases hjt : j < P
              · have HB5 := Lib.hid (H7.out.1.trans (hB7.out.mono H7.out.1.size))
                have HC := Lib.hid (HPt.out wr HB5.out j hjt)
                obtain ⟨y, hy⟩ : ∃ y, y = ws.getD (a + 1 + j) 0#64 := ⟨_, rfl⟩
                rw [← hy] at HC
                have hpn : ptrN ws l a j = decide (y.toNat = 0 ∨ (1 ≤ y.toNat ∧ y.toNat - 1 ∈ l)) := by unfold ptrN; rw [← hy]
                have HPn := Lib.hid hpn
                have HRg := Lib.hid (show (List.range (j + 1)).all (ptrN ws l a) = ptrN ws l a j from by rw [List.range_succ, List.all_append, hA.out]; simp)
                have HNo := Lib.hid (show ptrN ws l a j = false → R = 2 from fun h => by
                  rw [HRl.out, if_neg (all_no HWn.out.2 ?_)]
                  rw [HWn.out.1, Bool.and_eq_false_iff]
                  left
                  cases h2 : (List.range P).all (ptrN ws l a) with
                  | false => rfl
                  | true =>
                    have := List.all_eq_true.1 h2 j (List.mem_range.2 hjt)
                    rw [h] at this; cases this)
                have p3 : (0 : Int) ≤ (j : Int) := by omega
                have p4 : (j : Int) < (P : Int) := by omega
                clear hy hpn
                cases hpk : pokB b t y with
                | false =>
                  rw [(pt_no hpk).1, (pt_no hpk).2] at HC
                  obtain rfl : R = 2 := HNo.out (by
                    rw [HPn.out, decide_eq_false_iff_not]
                    rintro (h | ⟨h1, h2⟩)
                    · unfold pokB at hpk; simp [h] at hpk
                    · have := HMem.out _ h2
                      unfold pokB at hpk
                      rw [decide_eq_false_iff_not] at hpk
                      omega)
                  clear hpk
                  go_wp2_with fail
                  refine Calls.mono HC.out ?_
                  rintro r w8 ⟨rfl, b8⟩
                  have HB8 := Lib.hid (HB5.out.trans (b8.mono HB5.out.size))
                  clear b8
                  go_wp2_with fail
                  go_ret
                  exact ⟨rfl, H5.out.1.trans (HB8.out.mono H5.out.1.size)⟩
                | true =>
                  rw [(pt_yes hpk).1, (pt_yes hpk).2] at HC
                  obtain ⟨n, hn⟩ : ∃ n, n = y.toNat := ⟨_, rfl⟩
                  rw [← hn] at HC HPn
                  have hpk2 : n = 0 ∨ (b < n ∧ n ≤ t) := by
                    unfold pokB at hpk
                    rw [← hn] at hpk
                    exact of_decide_eq_true hpk
                  have hnt : n ≤ 8192 := by have := HT.out; omega
                  obtain ⟨d, hd⟩ : ∃ d, d = decide (((n : Int) - 1) ∈ M) := ⟨_, rfl⟩
                  have HLo := Lib.hid (fun W (hb : Below w5.heap.size w5 W) => (H5.out.2.1.below hb).look (p := (n : Int) - 1) (wfI (by omega) (by omega)))
                  rw [← hd] at HLo
                  have HD := Lib.hid (show ((n : Int) - 1) ∈ M ↔ (1 ≤ n ∧ n - 1 ∈ l) from by
                    rw [H5.out.2.2]
                    constructor
                    · rintro ⟨z, hz, e⟩
                      have : n = z + 1 := by omega
                      subst this
                      exact ⟨by omega, by simpa using hz⟩
                    · rintro ⟨h1, h2⟩
                      exact ⟨n - 1, h2, by omega⟩)
                  have HDd := Lib.hid hd
                  clear hn hpk hpk2 hd
                  go_wp2_with fail
                  refine Calls.mono HC.out ?_
                  rintro r w8 ⟨rfl, b8⟩
                  have HB8 := Lib.hid (HB5.out.trans (b8.mono HB5.out.size))
                  have HB78 := Lib.hid (hB7.out.trans (b8.mono hB7.out.size))
                  have hlk := HLo.out w8 HB8.out
                  have hhz := HB8.out.size
                  clear b8
                  by_cases hn0 : n = 0
                  · subst hn0
                    have hd0 : d = false := by
                      rw [HDd.out, decide_eq_false_iff_not, HD.out]; omega
                    subst hd0
                    have hok := (HRg.out.trans HPn.out)
                    have HOk := Lib.hid (show (List.range (j + 1)).all (ptrN ws l a) = true from by rw [hok]; simp)
                    clear hok hnt hjt
                    have hlk2 : (Instr.lookup 134 (.map (some mb)) (.int .i64 (-1)) true).run Try.prog w8 = .ok (.tuple #[.agg #[], .bool false]) w8 := hlk
                    clear hlk
                    go_wp2_with fail
                    have HB9 := Lib.hid (show Below w7.heap.size w7 (w8.alloc (.cells #[] 133)) from HB78.out.trans ((Gw.alloc w8 _).mono HB78.out.size))
                    clear hlk2
                    go_roundw
                    case rel => exact ⟨j + 1, by go_num, by omega, HOk, HB9⟩
                    case measure => simp [Go.RowKit.intOf]; omega
                  · obtain ⟨m, hm⟩ : ∃ m : Nat, (n : Int) - 1 = (m : Int) := ⟨n - 1, by omega⟩
                    have q1 : ((m : Int) == -1) = false := by simp
                    have q2 : ((m : Int) != -1) = true := by simp
                    have hpd : ptrN ws l a j = d := by
                      rw [HPn.out, HDd.out, decide_eq_decide, HD.out]
                      constructor
                      · rintro (h | h)
                        · exact absurd h hn0
                        · exact h
                      · exact .inr
                    rw [hm] at hlk ⊢
                    cases d with
                    | true =>
                      have HOk := Lib.hid (show (List.range (j + 1)).all (ptrN ws l a) = true from by rw [HRg.out, hpd])
                      clear hpd hm hn0 hnt hjt
                      go_wp2_with fail
                      have HB9 := Lib.hid (show Below w7.heap.size w7 (w8.alloc (.cells #[] 133)) from HB78.out.trans ((Gw.alloc w8 _).mono HB78.out.size))
                      clear hlk q1 q2
                      go_roundw
                      case rel => exact ⟨j + 1, by go_num, by omega, HOk, HB9⟩
                      case measure => simp [Go.RowKit.intOf]; omega
                    | false =>
                      obtain rfl : R = 2 := HNo.out hpd
                      clear hpd hm hn0 hnt hjt
                      go_wp2_with fail
                      have HB9 := Lib.hid (HB8.out.trans ((Gw.alloc w8 (.cells #[] 133)).mono HB8.out.size))
                      clear hlk q1 q2
                      go_ret
                      exact ⟨rfl, H5.out.1.trans (HB9.out.mono H5.out.1.size)⟩
              · have hjP : j = P := by omega
                have HAl := Lib.hid (show (List.range P).all (ptrN ws l a) = true from by rw [← hjP]; exact hA.out)
                have HB5 := Lib.hid (H7.out.1.trans (hB7.out.mono H7.out.1.size))
                have hk8 := H7.out.2.below hB7.out H7.out.2.lt
                obtain ⟨d0, d1, d2, d3⟩ := hk8.four
                clear hA hk8 hjP
                go_wp2_with fail
                refine Calls.mono (HPd.out wr HB5.out) ?_
                rintro r w8 ⟨rfl, b8⟩
                have HB8 := Lib.hid (HB5.out.trans (b8.mono HB5.out.size))
                clear b8 d0 d1 d2 d3
                cases PD with
                | true =>
                  have HX := Lib.hid (show (l.take (k + 1)).all (wellN ws l) = true from by
                    rw [HTk.out, List.all_append, hW.out, Bool.true_and, List.all_cons, List.all_nil, Bool.and_true, HWn.out.1, HAl.out]; rfl)
                  go_wp2_with fail
                  go_roundw
                  case rel => exact ⟨k + 1, by go_num, by omega, HX, HB8⟩
                  case measure => simp [Go.RowKit.intOf]; omega
                | false =>
                  obtain rfl : R = 2 := by
                    rw [HRl.out, if_neg (all_no HWn.out.2 ?_)]
                    rw [HWn.out.1, Bool.and_false]
                  go_wp2_with fail
                  go_ret
                  exact ⟨rfl, H5.out.1.trans (HB8.out.mono H5.out.1.size)⟩
          · have hkN : k = N := by omega
            obtain rfl : R = 0 := by
              have h := hW.out
              rw [hkN, List.take_of_length_le (by rw [← HN.out]; exact Nat.le_refl _)] at h
              rw [HRl.out, if_pos h]
            clear hkN
            go_wp2_with fail
            go_ret
            exact ⟨rfl, H5.out.1.trans (hB.out.mono H5.out.1.size)⟩
end Go.Proofs.Ytbanbpphadgoiaa
