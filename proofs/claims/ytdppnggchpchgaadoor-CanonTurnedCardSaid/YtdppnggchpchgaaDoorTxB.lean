/- canon.line: a node in words. Conditions: numbers below a hundred; lengths; the table deBruijn64tab. -/
import Derived.Test.YtdppnggchpchgaaDoorTxA
namespace Go.Proofs.YtdppnggchpchgaaDoor
set_option linter.unusedVariables false
set_option linter.unusedSimpArgs false
open Go.RowKit
theorem app_sd (a : List (BitVec 8)) (b : ByteArray) : strB a ++ b = strB (a ++ sB b) := by rw [← strB_app, strB_sB]
theorem app_ds (a : ByteArray) (b : List (BitVec 8)) : a ++ strB b = strB (sB a ++ b) := by rw [← strB_app, strB_sB]
theorem app_dd (a b : ByteArray) : a ++ b = strB (sB a ++ sB b) := by rw [← strB_app, strB_sB, strB_sB]
theorem ext3 (a b : BitVec 8) : (strB [49#8, a, b]).size = 3 ∧ (strB [49#8, a, b]).extract 1 3 = strB [a, b] := by
  refine ⟨rfl, ?_⟩
  have h : ((strB [49#8, a, b]).extract 1 3).data = (strB [a, b]).data := by
    rw [ByteArray.data_extract]
    unfold strB strL
    simp
  cases e1 : (strB [49#8, a, b]).extract 1 3
  cases e2 : strB [a, b]
  rw [e1, e2] at h
  exact congrArg ByteArray.mk h
theorem wrap_u8 (x : BitVec 8) : IntKind.u64.wrap (U8 x) = U8 x := by
  have h := x.isLt
  have e : U8 x = (x.toNat : Int) := rfl
  rw [e]
  simp only [IntKind.wrap, IntKind.signed, IntKind.bits]
  simp
  omega
theorem fu_w (w : World) (h : w.cell? ⟨2, 15, none⟩ = some (.int .u8 4)) (x : BitVec 8) :
    Calls Tryd.prog 45 #[.int .u64 (bits .or .u64 256 (IntKind.u64.wrap (U8 x))), .int .i64 16] w fun e w' => e = .returned (.string (strB [49#8, hexU (x.toNat / 16), hexU (x.toNat % 16)])) ∧ Below w.heap.size w w' := by
  rw [wrap_u8]
  exact fu_c w h x
theorem tab_lt {w : World} (h : w.cell? ⟨2, 15, none⟩ = some (.int .u8 4)) : 2 < w.heap.size := by
  unfold World.cell? at h
  cases hh : w.heap[2]? with
  | none => rw [hh] at h; cases h
  | some o => exact (Array.getElem?_eq_some_iff.1 hh).1
set_option maxHeartbeats 2000000
set_option maxRecDepth 100000
theorem line_c (w : World) (x : Nv) (hx : x.At w w.heap.size) (hp : ∀ p ∈ x.ps, 0 ≤ p ∧ p < 100) (h1 : x.ps.length ≤ 1000) (h2 : x.bs.length ≤ 2000) (ht : w.cell? ⟨2, 15, none⟩ = some (.int .u8 4)) :
    Calls Tryd.prog 31 #[x.v] w (RetP (.string (strB (lineT x.m))) w) := by
  have HT := Lib.hid (fun W (b : Below w.heap.size w W) => (b.cell (tab_lt ht)).trans ht)
  obtain ⟨PA, pc, DA, dc, ps, bs⟩ := x
  have HP := Lib.hid hp
  have HX := Lib.hid (And.intro hx.p hx.b)
  obtain ⟨N, hN⟩ : ∃ N, N = ps.length := ⟨_, rfl⟩
  obtain ⟨M, hM⟩ : ∃ M, M = bs.length := ⟨_, rfl⟩
  have HN := Lib.hid (And.intro hN hM)
  have q0 : (N : Int) ≤ 1000 := by have : ps.length ≤ 1000 := h1; omega
  have q1 : (M : Int) ≤ 2000 := by have : bs.length ≤ 2000 := h2; omega
  unfold Nv.v Nv.vp Nv.vd
  simp only at HP HX ⊢
  rw [← hN, ← hM]
  clear hx hp h1 h2 ht hN hM
  go_enter Tryd.func31, Tryd.ntmps31
  go_wp2_with fail
  obtain ⟨bx, hbx⟩ : ∃ s, s = w.heap.size := ⟨_, rfl⟩
  obtain ⟨bd, hbd⟩ : ∃ s, s = bx + 1 := ⟨_, rfl⟩
  obtain ⟨wa, hwa⟩ : ∃ W, W = w.alloc (.cells #[.slice PA N pc, .slice DA M dc] 52) := ⟨_, rfl⟩
  obtain ⟨wb, hwb⟩ : ∃ W, W = wa.alloc (.cells #[.pointer none, .slice none 0 0] 65) := ⟨_, rfl⟩
  rw [← hbx, ← hbd, ← hwa, ← hwb]
  have z1 : wa.heap.size = bd := by rw [hwa, hbd, hbx]; simp
  have k1 : Bk wa bx 52 #[.slice PA N pc, .slice DA M dc] := by rw [hwa, hbx]; exact Bk.new w _ _
  have k2 : Bk wb bd 65 #[.pointer none, .slice none 0 0] := by rw [hwb, ← z1]; exact Bk.new wa _ _
  have d1 : Below w.heap.size w wa := by rw [hwa]; exact Gw.alloc w _
  have d2 : Below wa.heap.size wa wb := by rw [hwb]; exact Gw.alloc wa _
  have HS := Lib.hid (show BdS wb bd bd [] ∧ Bk wb bx 52 #[.slice PA N pc, .slice DA M dc] ∧ Below w.heap.size w wb from
    ⟨⟨by rw [← z1]; exact d2.size, _, ⟨Nat.le_refl _, ⟨_, .inl rfl, k2⟩, Ow.nil_ _ _ _ _⟩⟩, k1.below d2 k1.lt, d1.trans (d2.mono d1.size)⟩)
  have HO := Lib.hid (And.intro hbx hbd)
  clear hbx hbd hwa hwb z1 k1 k2 d1 d2
  have hbk : ∀ {W W' : World}, (BdS W bd bd [] → False) ∨ True := fun {W W'} => .inr trivial
  clear hbk
  have HKeep := Lib.hid (fun (W W' : World) (h : Bk W bx 52 #[.slice PA N pc, .slice DA M dc]) (hb : Below w.heap.size w W) (hk : Below bd W W') => show Bk W' bx 52 #[.slice PA N pc, .slice DA M dc] ∧ Below w.heap.size w W' from
    ⟨(hk.block bx (by have := HO.out; omega)).trans h, hb.trans (hk.mono (by have := HO.out; omega))⟩)
  go_loopw [11] (fun i W => ∃ k : Nat, i = .int .i64 k ∧ k ≤ N ∧ Hid (BdS W bd bd (ptrT (ps.take k)) ∧ Bk W bx 52 #[.slice PA N pc, .slice DA M dc] ∧ Below w.heap.size w W)) (fun i _ => N - (Go.RowKit.intOf i).toNat)
  case atStart => exact ⟨0, rfl, Nat.zero_le _, Lib.hid HS.out⟩
  case round =>
    obtain ⟨k, rfl, hk, hS⟩ := hrel
    by_cases hlt : k < N
    · have hkl : k < ps.length := by rw [← HN.out.1]; exact hlt
      obtain ⟨p, hp⟩ : ∃ p, p = ps[k] := ⟨_, rfl⟩
      obtain ⟨ad, rfl, hcell⟩ : ∃ ad, PA = some ad ∧ wr.cell? (ad.add k) = some (.int .i64 p) := by
        obtain ⟨ad, e, _, hc⟩ := (HX.out.1.below hS.out.2.2) k hkl
        exact ⟨ad, e, by rw [hp]; exact hc⟩
      have hpp := HP.out p (by rw [hp]; exact List.getElem_mem _)
      have HI := Lib.hid (fun W => itoaD p hpp.1 hpp.2 W)
      obtain ⟨D, hD⟩ : ∃ D, D = decL p.toNat := ⟨_, rfl⟩
      have hnx : ptrT (ps.take (k + 1)) = ptrT (ps.take k) ++ (32#8 :: D) := by
        rw [List.take_succ_eq_append_getElem hkl, ptrT_snoc, ← hp, hD]
      have hDl : D.length ≤ 2 := by rw [hD]; exact decL_len _
      have hl : (ptrT (ps.take k)).length ≤ 3000 := by
        have h1 := ptrT_len (ps.take k)
        rw [List.length_take] at h1
        omega
      rw [← hD] at HI
      obtain ⟨dl, hdl⟩ : ∃ n, n = D.length := ⟨_, rfl⟩
      have a4 : (⟨#[32]⟩ : ByteArray) ++ strB D = strB (32#8 :: D) := app_ds ⟨#[32]⟩ D
      have a5 : (strB D).size = dl := by rw [strB_len, hdl]
      have a6 : (dl : Int) ≤ 2 := by omega
      have HNx := Lib.hid (And.intro hnx (And.intro hDl hl))
      have p1 : (0 : Int) ≤ (k : Int) := by omega
      have p2 : (k : Int) < (N : Int) := by omega
      clear hp hpp hD hnx hDl hl hkl hdl
      go_wp2_with fail
      refine Calls.mono (HI.out _) ?_
      rintro r w2 ⟨rfl, b2⟩
      have H2 := Lib.hid (show BdS w2 bd bd (ptrT (ps.take k)) ∧ Bk w2 bx 52 #[.slice (some ad) N pc, .slice DA M dc] ∧ Below w.heap.size w w2 from ⟨hS.out.1.below b2, hS.out.2.1.below b2 hS.out.2.1.lt, hS.out.2.2.trans (b2.mono hS.out.2.2.size)⟩)
      clear b2 hcell
      go_wp2_with fail
      refine Calls.mono (ws_s _ _ _ _ (32#8 :: D) H2.out.1 (by have := HNx.out; rw [List.length_cons]; omega)) ?_
      rintro r w3 ⟨n, rfl, h3, b3⟩
      have H3 := Lib.hid (show BdS w3 bd bd (ptrT (ps.take (k + 1))) ∧ Bk w3 bx 52 #[.slice (some ad) N pc, .slice DA M dc] ∧ Below w.heap.size w w3 from by
        rw [HNx.out.1]
        exact ⟨h3, HKeep.out _ _ H2.out.2.1 H2.out.2.2 b3⟩)
      clear h3 b3 a4 a5 a6
      go_wp2_with fail
      go_roundw
      case rel => exact ⟨k + 1, by go_num, by omega, Lib.hid H3.out⟩
      case measure => simp [Go.RowKit.intOf]; omega
    · have hkN : k = N := by omega
      have hS1 : BdS wr bd bd (ptrT ps) := by
        have h := hS.out.1
        rwa [List.take_of_length_le (by rw [← HN.out.1]; omega)] at h
      have H1 := Lib.hid (And.intro hS1 hS.out.2)
      obtain ⟨c0, c1⟩ := hS.out.2.1.two
      have hbl := hS.out.2.1.lt
      have hPl : (ptrT ps).length ≤ 3000 := by have h := ptrT_len ps; have := HN.out.1; omega
      have HPl := Lib.hid hPl
      clear hS1 hkN hS hPl
      by_cases hM : 0 < M
      · have hne : bs ≠ [] := fun e => by have := HN.out.2; rw [e] at this; simp at this; omega
        have hx : ptrT ps ++ [32#8, 120#8] = ptrT ps ++ xT bs := by unfold xT; rw [if_neg hne]
        have hM2 : (0 : Int) < (M : Int) := by omega
        have HXx := Lib.hid hx
        clear hx hne
        go_wp2_with fail
        refine Calls.mono (ws_s _ _ _ _ [32#8, 120#8] H1.out.1 (by have := HPl.out; simp; omega)) ?_
        rintro r w3 ⟨n, rfl, h3, b3⟩
        have H3 := Lib.hid (show BdS w3 bd bd (ptrT ps ++ xT bs) ∧ Bk w3 bx 52 #[.slice PA N pc, .slice DA M dc] ∧ Below w.heap.size w w3 from by
          rw [← HXx.out]
          exact ⟨h3, HKeep.out _ _ H1.out.2.1 H1.out.2.2 b3⟩)
        obtain ⟨e0, e1⟩ := H3.out.2.1.two
        have hbl3 := H3.out.2.1.lt
        clear h3 b3 c0 c1 hbl HXx
        go_wp2_with fail
        clear e0 e1 hbl3
        go_loopw [28] (fun i W => ∃ k : Nat, i = .int .i64 k ∧ k ≤ M ∧ Hid (BdS W bd bd (ptrT ps ++ xT bs ++ hexB (bs.take k)) ∧ Bk W bx 52 #[.slice PA N pc, .slice DA M dc] ∧ Below w.heap.size w W)) (fun i _ => M - (Go.RowKit.intOf i).toNat)
        case atStart => exact ⟨0, rfl, Nat.zero_le _, Lib.hid (by rw [List.take_zero]; show BdS w3 bd bd (ptrT ps ++ xT bs ++ []) ∧ _; rw [List.append_nil]; exact H3.out)⟩
        case round =>
          obtain ⟨k, rfl, hk, hS⟩ := hrel
          by_cases hlt : k < M
          · have hkl : k < bs.length := by rw [← HN.out.2]; exact hlt
            obtain ⟨x, hxx⟩ : ∃ x, x = bs[k] := ⟨_, rfl⟩
            obtain ⟨ad, rfl, hcell⟩ : ∃ ad, DA = some ad ∧ wr.cell? (ad.add k) = some (.int .u8 (U8 x)) := by
              obtain ⟨ad, e, _, hc⟩ := (HX.out.2.below hS.out.2.2) k hkl
              exact ⟨ad, e, by rw [hxx]; exact hc⟩
            have HF := Lib.hid (fu_w wr (HT.out wr hS.out.2.2) x)
            obtain ⟨ha, hha⟩ : ∃ a, a = hexU (x.toNat / 16) := ⟨_, rfl⟩
            obtain ⟨hb, hhb⟩ : ∃ a, a = hexU (x.toNat % 16) := ⟨_, rfl⟩
            have hnx : hexB (bs.take (k + 1)) = hexB (bs.take k) ++ [ha, hb] := by
              rw [List.take_succ_eq_append_getElem hkl, hexB_snoc, ← hxx, hha, hhb]
            rw [← hha, ← hhb] at HF
            have hl : (hexB (bs.take k)).length ≤ 4000 := by
              rw [hexB_len, List.length_take]; omega
            have HNx := Lib.hid (And.intro hnx hl)
            have p1 : (0 : Int) ≤ (k : Int) := by omega
            have p2 : (k : Int) < (M : Int) := by omega
            clear hxx hha hhb hnx hl hkl
            go_wp2_with fail
            refine Calls.mono HF.out ?_
            rintro r w4 ⟨rfl, b4⟩
            have H4 := Lib.hid (show BdS w4 bd bd (ptrT ps ++ xT bs ++ hexB (bs.take k)) ∧ Bk w4 bx 52 #[.slice PA N pc, .slice (some ad) M dc] ∧ Below w.heap.size w w4 from ⟨hS.out.1.below b4, hS.out.2.1.below b4 hS.out.2.1.lt, hS.out.2.2.trans (b4.mono hS.out.2.2.size)⟩)
            obtain ⟨x0, x1⟩ := ext3 ha hb
            clear b4 hcell HF
            go_wp2_with fail
            refine Calls.mono (ws_s _ _ _ _ [ha, hb] H4.out.1 (by have := HPl.out; have := HNx.out.2; have := xT_len bs; rw [List.length_append, List.length_append]; simp; omega)) ?_
            rintro r w5 ⟨n, rfl, h5, b5⟩
            have H5 := Lib.hid (show BdS w5 bd bd (ptrT ps ++ xT bs ++ hexB (bs.take (k + 1))) ∧ Bk w5 bx 52 #[.slice PA N pc, .slice (some ad) M dc] ∧ Below w.heap.size w w5 from by
              rw [HNx.out.1, ← List.append_assoc]
              exact ⟨h5, HKeep.out _ _ H4.out.2.1 H4.out.2.2 b5⟩)
            clear h5 b5 x0 x1
            go_wp2_with fail
            go_roundw
            case rel => exact ⟨k + 1, by go_num, by omega, Lib.hid H5.out⟩
            case measure => simp [Go.RowKit.intOf]; omega
          · have hS1 : BdS wr bd bd (lineT (ps, bs)) := by
              have h := hS.out.1
              rwa [List.take_of_length_le (by rw [← HN.out.2]; omega)] at h
            have HE := Lib.hid (And.intro hS1 hS.out.2)
            clear hS1 hS
            go_wp2_with fail
            refine Calls.mono (BdS.str _ _ _ _ HE.out.1) ?_
            rintro r w5 ⟨rfl, b5⟩
            have H5 := Lib.hid (HKeep.out _ _ HE.out.2.1 HE.out.2.2 b5).2
            clear b5
            go_wp2_with fail
            go_ret
            exact ⟨rfl, H5.out⟩
      · obtain rfl : M = 0 := by omega
        have hbs : bs = [] := List.eq_nil_of_length_eq_zero HN.out.2.symm
        have hS1 : BdS wr bd bd (lineT (ps, bs)) := by
          have h := H1.out.1
          subst hbs
          show BdS wr bd bd (ptrT ps ++ [] ++ [])
          rw [List.append_nil, List.append_nil]
          exact h
        have HE := Lib.hid (And.intro hS1 H1.out.2)
        clear hS1 hbs hM
        go_wp2_with fail
        refine wp_loop_rounds 1 ?_
        rw [rounds_succ]
        go_wp2_with fail
        refine Calls.mono (BdS.str _ _ _ _ HE.out.1) ?_
        rintro r w5 ⟨rfl, b5⟩
        have H5 := Lib.hid (HKeep.out _ _ HE.out.2.1 HE.out.2.2 b5).2
        clear b5
        go_wp2_with fail
        go_ret
        exact ⟨rfl, H5.out⟩
end Go.Proofs.YtdppnggchpchgaaDoor
