/- Texts joined: RcG RcH RcI RcJ RcK RcL RcM ObM. -/
import Derived.Test.YtbanbpphadgoiaaZb7
import Derived.Test.YtbanbpphadgoiaaRegV
import Derived.Test.YtbanbpphadgoiaaRegT
/- The reference's copier: Move, where the object is copied. Conditions: lengths. -/
namespace Go.Proofs.Ytbanbpphadgoiaa
set_option linter.unusedVariables false
set_option linter.unusedSimpArgs false
open Go.RowKit Go.Maps
theorem rd1_sN (w : World) (p : Addr) (u : Value) (E : TypeId) (a : Nat) : Rd iN ((w.setCell p u).alloc (.cells #[.int .i64 (a : Int)] E)) (w.heap.size + 1) (some ⟨w.heap.size, 0, none⟩) [a] := by
  have h := rd1_new (f := iN) (w := w.setCell p u) (E := E) (y := a) (u := .int .i64 (a : Int)) rfl
  have e : (w.setCell p u).heap.size = w.heap.size := by simp [World.setCell]
  rw [e] at h
  exact h
theorem ow_slN {α : Type} {f : α → Value} {E : TypeId} {w : World} {base : Nat} {v : Value} {xs : List α} (h : Ow f E w base v xs) : ∃ A n c, v = .slice A n c := by
  obtain ⟨A, c, e, _⟩ := h.form
  exact ⟨A, _, c, e⟩
theorem ow_at {α : Type} {f : α → Value} {E : TypeId} {w : World} {base : Nat} {v : Value} {xs : List α} (h : Ow f E w base v xs) (hx : 0 < xs.length) : ∃ q c, v = .slice (some ⟨q, 0, none⟩) xs.length c := by
  rcases h.2 with ⟨e, hn⟩ | ⟨q, cap, cur, e, _⟩
  · omega
  · exact ⟨q, cap, e⟩
section
variable {B X R N : Nat} {rA : Option Addr} {rc : Nat} {nA : Option Addr} {nc : Nat} {fv tv : Value} {ws : List (BitVec 64)} {b t e : Nat} {T : List (BitVec 64)} {top : Nat} {us : List (Nat × Nat)} {scan : Nat} {full : Bool}
set_option maxHeartbeats 1000000
set_option maxRecDepth 100000
theorem move_ok (w : World) (h : RcAt w B X R N rA rc nA nc fv tv ws b t e T top us scan false) (hl : us.length ≤ 100000) (hwl : ws.length ≤ 8192) (hT : T.length ≤ 8192) (htT : top ≤ T.length) (a : Nat) (has : a + szX (ws.getD a 0#64) ≤ ws.length) (room : Nat) (hg : goodX (ws.getD a 0#64) room = true) (hu : wentV us a = -1) (hf : szX (ws.getD a 0#64) ≤ T.length - top) (sz : Nat) (hsz0 : sz = szX (ws.getD a 0#64)) :
    Calls Try.prog 36 #[.pointer (some ⟨X, 0, none⟩), .int .i64 (a : Int)] w fun r w' => ∃ (nA' : Option Addr) (nc' : Nat) (fv' tv' : Value), r = .returned (.int .i64 top) ∧ RcAt w' B X R N rA rc nA' nc' fv' tv' ws b t e (cpF (allocW T top sz (ws.getD a 0#64)) ws top a sz) (top + sz) (us ++ [(a, top)]) scan false ∧ Below B w w' ∧ Kept (RcS X N fv tv (.slice nA T.length nc)) w w' ∧ (∀ k, RcS X N fv' tv' (.slice nA' T.length nc') k → RcS X N fv tv (.slice nA T.length nc) k ∨ w.heap.size ≤ k) := by
  have ha : a < ws.length := by have := size_pos hg; omega
  have HW := Lib.hid (h.went hl a)
  rw [hu] at HW
  obtain ⟨x, hx⟩ : ∃ x, x = ws.getD a 0#64 := ⟨_, rfl⟩
  rw [← hx] at hg hf
  obtain ⟨hv, _, _, hsx, hsz, _⟩ := head_of hg
  have hrt := (good_right hg).1
  have HUn := Lib.hid (fun W => runpack_false x (goodX_out hg).2.1 W)
  rw [hv] at HUn
  obtain ⟨ad, rfl, hlt, hcw⟩ := h.src.rd a ha
  have hcx : w.cell? (ad.add a) = some (.int .u64 (U64 x)) := by
    rw [hcw, hx, List.getD_eq_getElem?_getD, List.getElem?_eq_getElem ha]; rfl
  have hlt : (ad.add a).block < w.heap.size := by rw [add_block]; exact hlt
  obtain ⟨L, hL⟩ : ∃ L, L = ws.length := ⟨_, rfl⟩
  have c0 := h.src.four.1
  rw [← hL] at c0
  have x0 := h.blk.cell 0
  have x1 := h.blk.cell 1
  have x5 := h.blk.cell 5
  have hX := h.blk.lt
  have hR := h.src.blk.lt
  have HP := Lib.hid h
  have q6 : (a : Int) < (L : Int) := by omega
  have q2 : (0 : Int) ≤ (a : Int) := by omega
  have qL : (L : Int) ≤ 8192 := by omega
  obtain ⟨P, hP⟩ : ∃ P, P = P0 x := ⟨_, rfl⟩
  obtain ⟨n, hn⟩ : ∃ P, P = B0 x := ⟨_, rfl⟩
  rw [← hP, ← hn] at HUn hrt hsz
  rw [← hx] at has hsz0
  rw [← hsz0] at has hf hsz hsx
  have hpk : packH (P : Int) (n : Int) false 0 = x := by rw [hP, hn]; exact (good_right hg).2
  have hs1 : 1 ≤ sz := by rw [hsz0]; exact size_pos hg
  obtain ⟨T1, hT1⟩ : ∃ T1, T1 = allocW T top sz x := ⟨_, rfl⟩
  have hT1l : T1.length = T.length := by rw [hT1, allocW_len]
  have HAl : Hid (∀ W, Below w.heap.size w W → Calls Try.prog 70 #[.pointer (some ⟨N, 0, none⟩), .agg #[.int .i64 (P : Int), .int .i64 (n : Int), .bool false, .int .i64 0]] W (fun e2 w2 => ∃ v, e2 = .returned v ∧ Kept (fun k => k = N) W w2 ∧ AndV (.tuple #[.int .i64 top, .int .i64 0]) (fun z => ∃ A' c', RcAt z B X R N (some ad) rc A' c' fv tv ws b t e T1 (top + sz) us scan false) v w2)) := Lib.hid fun W hW => by
    have h' := h.below hW
    obtain ⟨A0, c0, e0, _⟩ := h'.row.form
    have hrd := h'.row
    rw [show nA = A0 from by injection e0] at hrd
    refine (ralloc_ok W N 0 top T.length nc nA T h'.nw (by injection e0 with e1 _ _; rw [e1]; exact hrd.rd) (P : Int) (n : Int) 0 sz hrt hsz hs1 htT (Nat.le_refl _) (by omega) (by omega)).mono ?_
    rintro r w2 ⟨rfl, A', c', hbk, how, hg2⟩
    rw [hpk, ← hT1] at how
    exact ⟨_, rfl, (Kept.grown hg2).more (fun k hk => by injection hk with hk; exact hk.symm), rfl, A', c', h'.alloced hbk how hT1l hg2⟩
  have HT := Lib.hid (And.intro hT1 (And.intro hT1l (And.intro hsz0 (And.intro hs1 (And.intro has (And.intro hf (And.intro hx (And.intro hT (And.intro hwl hl)))))))))
  have p0 : ¬ (a : Int) < 0 := by omega
  have HSz := Lib.hid (fun W => rsize_c (P : Int) (n : Int) false 0 W)
  rw [hsz] at HSz
  have HNX := Lib.hid h.XN
  have HNl := Lib.hid h.nw.lt
  have qt : (top : Int) ≤ 8192 := by omega
  have qs : (sz : Int) ≤ 8192 := by omega
  clear h hg hf hv hsx hsz hrt hcw hL hwl hT htT ha hu hx hP hn has hsz0 hpk hs1 hT1 hT1l hl
  go_enter Try.func36, Try.ntmps36
  go_wp2_with fail
  refine Calls.mono HW.out ?_
  rintro r w2 ⟨rfl, b2⟩
  have H2 := Lib.hid b2
  have x0 : w2.cell? ⟨X, 0, none⟩ = some (.pointer (some ⟨R, 0, none⟩)) := (b2.cell (p := ⟨X, 0, none⟩) hX).trans x0
  have x5 : w2.cell? ⟨X, 5, none⟩ = some (.bool false) := (b2.cell (p := ⟨X, 5, none⟩) hX).trans x5
  have c0 := (b2.cell (p := ⟨R, 0, none⟩) hR).trans c0
  have hcx := (b2.cell (p := ad.add a) hlt).trans hcx
  have hX2 := Nat.lt_of_lt_of_le hX b2.size
  have hR2 := Nat.lt_of_lt_of_le hR b2.size
  have hl2 := Nat.lt_of_lt_of_le hlt b2.size
  clear b2 x1 hX hR hlt
  go_wp2_with fail
  refine Calls.mono (HUn.out w2) ?_
  rintro r w2' ⟨rfl, b2⟩
  have H2' := Lib.hid (H2.out.trans (b2.mono H2.out.size))
  clear b2 x0 x5 c0 hcx hX2 hR2 hl2
  go_wp2_with fail
  obtain ⟨H, hH⟩ : ∃ H, H = w2'.heap.size := ⟨_, rfl⟩
  obtain ⟨w3, hw3⟩ : ∃ w3, w3 = w2'.alloc (.cells #[.int .i64 (P : Int), .int .i64 (n : Int), .bool false, .int .i64 0] 112) := ⟨_, rfl⟩
  have hbk : Bk w3 H 112 #[.int .i64 (P : Int), .int .i64 (n : Int), .bool false, .int .i64 0] := by rw [hw3, hH]; exact Bk.new w2' _ _
  have H3 := Lib.hid (show Below w.heap.size w w3 by rw [hw3]; exact H2'.out.alloc H2'.out.size _)
  rw [← hH, ← hw3]
  have h3 := HP.out.below H3.out
  obtain ⟨g0, g1, g2, g3⟩ := hbk.four
  have x1 := h3.blk.cell 1
  have hX3 := h3.blk.lt
  have hH3 := hbk.lt
  have HAl3 : Hid (∀ W, Below w3.heap.size w3 W → _) := Lib.hid fun W hW => HAl.out W (H3.out.trans (hW.mono H3.out.size))
  have hHN : H ≠ N := by have h1 := H2'.out.size; have h2 := HNl.out; omega
  have HBk := Lib.hid hbk
  clear hH hw3 hbk h3 HAl
  refine rm7 _ _ _ X N H (fun k => k = N) (P : Int) (n : Int) top 0 _ hX3 (fun h => HNX.out.1 h) hH3 hHN x1 g0 g1 g2 g3 (fun _ _ h g => h.imp fun _ h => h.imp fun _ h => h.below g) HAl3 ?_ ?_ ?_ ?_
  · rfl
  · rfl
  · rfl
  intro vals2 w4 hK h5 h8 hcall
  unfold IsV at h5 h8
  simp only [putO, Act.put, List.setIfInBounds_toArray, List.set_cons_zero, List.set_cons_succ, h5, h8]
  obtain ⟨A', c', hr4⟩ := hcall.2
  have HE := Lib.hid (And.intro hr4 hK)
  obtain ⟨g0, g1, g2, g3⟩ := (hK.bk HBk.out hHN).four
  have hH4 := (hK.bk HBk.out hHN).lt
  obtain ⟨LT, hLT⟩ : ∃ LT, LT = T1.length := ⟨_, rfl⟩
  have x1 := hr4.blk.cell 1
  have nn0 := hr4.nw.cell 0
  have hrow := hr4.row
  rw [← hLT] at nn0 hrow
  have hX4 := hr4.blk.lt
  have hN4 := hr4.nw.lt
  have HLT := Lib.hid hLT
  have HRow := Lib.hid (show Rd u64v w4 w4.heap.size A' T1 from by have h := hrow; rw [hLT] at h; exact h.rd)
  clear hK h5 h8 hcall hr4 hX3 hH3 HAl3 hLT hrow
  have HLen := Lib.hid (show ([] : List (BitVec 64)).length + T1.length ≤ 4294967296 by have h1 := HT.out.2.1; have h2 := HT.out.2.2.2.2.2.2.2.1; simp; omega)
  have HPos := Lib.hid (show 0 < T1.length by have h1 := HT.out.2.1; have h2 := HT.out.2.2.2.1; have h3 := HT.out.2.2.2.2.2.1; omega)
  go_wp2_with (at_builtin; refine wp_app one64 u64v_one rfl (.tmp 53) (.tmp 60) rfl w4.heap.size _ [] rfl (ow_empty u64v 62 w4 w4.heap.size (Nat.le_refl _)) A' LT c' T1 rfl HLT.out w4.heap.size (HRow.out.alloc (Nat.le_refl _) _) HLen.out (by decide) (by simp) ?_; intro v9 w9 ho9 hb9 hg9 hv9; rw [List.nil_append] at ho9; obtain ⟨q, c9, e9⟩ := ow_at ho9 HPos.out; rw [← HLT.out] at e9; subst e9; have H9 := Lib.hid (And.intro ho9 ((Gw.alloc w4 _).trans hb9)); clear ho9 hb9 hg9 hv9 nn0 x1 g0 g1 g2 g3)
  have HS0 := Lib.hid (show Ow u64v 62 w9 w4.heap.size (.slice (some ⟨q, 0, none⟩) LT c9) (cpF T1 ws top a 0) ∧ Below w4.heap.size w4 w9 from H9.out)
  go_loopw [10] (fun x W => ∃ i : Nat, x = .int .i64 i ∧ i ≤ sz ∧ Hid (Ow u64v 62 W w4.heap.size (.slice (some ⟨q, 0, none⟩) LT c9) (cpF T1 ws top a i) ∧ Below w4.heap.size w4 W)) (fun x _ => sz - (Go.RowKit.intOf x).toNat)
  case atStart => exact ⟨0, rfl, Nat.zero_le _, HS0⟩
  case round =>
    obtain ⟨i, rfl, hi, hS⟩ := hrel
    clear HS0 H9
    have hk4 := HE.out.2.bk HBk.out hHN
    obtain ⟨g0, g1, g2, g3⟩ := (hk4.below hS.out.2 hk4.lt).four
    have p1 : (0 : Int) ≤ (i : Int) := by omega
    by_cases hlt : i < sz
    · have q1 : (i : Int) < (sz : Int) := by omega
      have hr := HE.out.1.below hS.out.2
      have HC := Lib.hid (fun W (hb : Below wr.heap.size wr W) => hr.below hb)
      have HO := Lib.hid hS.out
      have hb4 := hS.out.2.size
      clear hr hS
      go_wp2_with fail
      refine Calls.mono (HSz.out wr) ?_
      rintro r w10 ⟨rfl, b10⟩
      have hr10 := HC.out w10 b10
      have ho10 := HO.out.1.below b10
      obtain ⟨ti, hti⟩ : ∃ ti, ti = top + i := ⟨_, rfl⟩
      obtain ⟨ai, hai⟩ : ∃ ti, ti = a + i := ⟨_, rfl⟩
      have e1 : (top : Int) + (i : Int) = (ti : Int) := by omega
      have e2 : (a : Int) + (i : Int) = (ai : Int) := by omega
      have hal : ai < ws.length := by have := HT.out.2.2.2.2.1; omega
      have htl : ti < (cpF T1 ws top a i).length := by rw [cpF_len]; have h1 := HT.out.2.1; have h3 := HT.out.2.2.2.2.2.1; omega
      have x0 := hr10.blk.cell 0
      have c0 := hr10.src.four.1
      obtain ⟨ad2, ead, hlt2, hcw⟩ := hr10.src.rd ai hal
      injection ead with ead
      subst ead
      obtain ⟨y, hy⟩ : ∃ y, y = ws[ai] := ⟨_, rfl⟩
      rw [← hy] at hcw
      unfold u64v at hcw
      obtain ⟨L2, hL2⟩ : ∃ L2, L2 = ws.length := ⟨_, rfl⟩
      rw [← hL2] at c0
      have q3 : (ai : Int) < (L2 : Int) := by omega
      have q4 : (0 : Int) ≤ (ai : Int) := by omega
      have q5 : (0 : Int) ≤ (ti : Int) := by omega
      have q6' : (ti : Int) < (LT : Int) := by have h1 := HLT.out; rw [cpF_len] at htl; omega
      obtain ⟨yo, hrow⟩ : ∃ yo : BitVec 64, w10.cell? ⟨q, ti, none⟩ = some (.int .u64 (U64 yo)) := ⟨_, ho10.cell htl⟩
      have hfre := ho10.free ti
      have hqs := ho10.ge.2
      have HNx := Lib.hid (show Ow u64v 62 (w10.setCell ⟨q, ti, none⟩ (u64v y)) w4.heap.size (.slice (some ⟨q, 0, none⟩) LT c9) (cpF T1 ws top a (i + 1)) ∧ Below w4.heap.size w4 (w10.setCell ⟨q, ti, none⟩ (u64v y)) from
        ⟨by
          have h := ho10.set htl y
          rw [show (cpF T1 ws top a i).set ti y = cpF T1 ws top a (i + 1) from by
            rw [hy, hti]
            show _ = (cpF T1 ws top a i).set (top + i) (ws.getD (a + i) 0#64)
            rw [← hai, List.getD_eq_getElem?_getD, List.getElem?_eq_getElem hal]; rfl] at h
          exact h, ((HO.out.2.trans (b10.mono hb4))).setCell (HO.out.1.ge.1) _⟩)
      clear b10 hr10 ho10 hti hai hal htl hy hL2 hlt2 HC g0 g1 g2 g3 hk4
      go_wp2_with fail
      go_roundw
      case rel => first | exact ⟨i + 1, by go_num, by omega, HNx⟩ | ((repeat apply Exists.intro); refine ⟨?_, rfl⟩; exact ⟨i + 1, by go_num, by omega, HNx⟩)
      case measure => simp [Go.RowKit.intOf]; omega
    · have q1 : ¬ (i : Int) < (sz : Int) := by omega
      have his : i = sz := by omega
      have HC := Lib.hid hS.out
      have hb4 := hS.out.2.size
      clear hS
      go_wp2_with fail
      refine Calls.mono (HSz.out wr) ?_
      rintro r w10 ⟨rfl, b10⟩
      have hb10 := HC.out.2.trans (b10.mono hb4)
      have hr10 := HE.out.1.below hb10
      have ho10 := HC.out.1.below b10
      rw [his] at ho10
      have H10 := Lib.hid (And.intro hb10 ho10)
      obtain ⟨A1, c1, ef, _⟩ := hr10.fr.form
      obtain ⟨A3, c3, et, _⟩ := hr10.to_.form
      rw [List.length_map] at ef et
      obtain ⟨M, hM⟩ : ∃ M, M = us.length := ⟨_, rfl⟩
      rw [← hM] at ef et
      have x1 := hr10.blk.cell 1
      have x2 := hr10.blk.cell 2
      have x3 := hr10.blk.cell 3
      rw [ef] at x2
      rw [et] at x3
      have nn0 := hr10.nw.cell 0
      have nf0 := hr10.nw.free 0
      have xf2 := hr10.blk.free 2
      have xf3 := hr10.blk.free 3
      have hXl := hr10.blk.lt
      have hNl := hr10.nw.lt
      have hNX := HNX.out.1
      have HM := Lib.hid (And.intro hM (And.intro ef et))
      obtain ⟨T2, hT2⟩ : ∃ T2, T2 = cpF T1 ws top a sz := ⟨_, rfl⟩
      have hT2l : T2.length = LT := by rw [hT2, cpF_len, HLT.out]
      have hT21 : T2.length = T1.length := by rw [hT2l, HLT.out]
      rw [← hT2] at ho10
      have hly := HE.out.1.lay hb10 (T' := T2) (q := q) (qc := c9) (by rw [hT2l]; exact ho10) hT21
      rw [hT2l] at hly
      have HLy := Lib.hid hly
      have HT2 := Lib.hid (And.intro hT2 hT2l)
      have hxa := hly.1.blk
      rw [ef, et] at hxa
      have HXa := Lib.hid hxa
      have HF1 := Lib.hid (show Ow iN 3 (w10.setCell ⟨N, 0, none⟩ (.slice (some ⟨q, 0, none⟩) LT c9)) B (.slice A1 M c1) (us.map Prod.fst) from ef ▸ hly.1.fr)
      have HLn := Lib.hid (show (us.map Prod.fst).length + 1 ≤ 4294967296 ∧ (us.map Prod.snd).length + 1 ≤ 4294967296 by have := HT.out.2.2.2.2.2.2.2.2.2; rw [List.length_map, List.length_map]; omega)
      have HBs := Lib.hid (show B ≤ w10.heap.size by have := hly.1.lts.2.2.2.2.2; simpa [World.setCell] using this)
      clear b10 hb10 hr10 ho10 his hb4 hM ef et g0 g1 g2 g3 hk4 hlt q1 hi p1 hly hxa hT2 hT2l hT21
      go_wp2_with (first | (at_builtin; refine wp_app oneI iN_one rfl (.tmp 96) (.tmp 98) rfl B (.slice A1 M c1) (us.map Prod.fst) rfl (HF1.out.alloc _) (some ⟨w10.heap.size, 0, none⟩) 1 1 [a] rfl rfl (w10.heap.size + 1) (rd1_sN w10 _ _ _ a) HLn.out.1 (by decide) (by have := HBs.out; simp [World.setCell]; omega) ?_; intro v6 w12 ho6 hb6 (hg6 : World.grownBy ((w10.setCell ⟨N, 0, none⟩ (.slice (some ⟨q, 0, none⟩) LT c9)).alloc (.cells #[.int .i64 (a : Int)] 3)) w12 (Value.slice A1 M c1).ownBlock) (hv6 : v6.ownBlock = (Value.slice A1 M c1).ownBlock ∨ v6.ownBlock = some ((w10.setCell ⟨N, 0, none⟩ (.slice (some ⟨q, 0, none⟩) LT c9)).alloc (.cells #[.int .i64 (a : Int)] 3)).heap.size); obtain ⟨A6, n6, c6, rfl⟩ := ow_slN ho6; have HK6 := Lib.hid (And.intro hg6 hv6); have hk6 := (HXa.out.alloc (.cells #[.int .i64 (a : Int)] 3)).grown hg6 (fun e => (HLy.out.1.ap X (.inl rfl)).2.1 (by rw [HM.out.2.1]; exact e.symm)); have HP6 := Lib.hid (HLy.out.1.pushF ho6 (by rw [HM.out.2.1]; exact hg6) (by rw [HM.out.2.1]; exact hv6) _ rfl); have j2 := hk6.cell 2; have j3 := hk6.cell 3; have jf2 := hk6.free 2; have jf3 := hk6.free 3; have jX := hk6.lt; clear ho6 hb6 hg6 hv6 hk6) | (at_builtin; refine wp_app oneI iN_one rfl (.tmp 106) (.tmp 108) rfl B (.slice A3 M c3) (us.map Prod.snd) rfl ((show Ow iN 3 _ B (.slice A3 M c3) (us.map Prod.snd) from HM.out.2.2 ▸ HP6.out.2.2.2.2.2.1).alloc _) (some ⟨w12.heap.size, 0, none⟩) 1 1 [top] rfl rfl (w12.heap.size + 1) (rd1_sN w12 _ _ _ top) HLn.out.2 (by decide) (by have h1 := jX; have h2 := HNX.out.2.1; simp [World.setCell]; omega) ?_; intro v7 w14 ho7 hb7 (hg7 : World.grownBy ((w12.setCell ⟨X, 2, none⟩ (.slice A6 n6 c6)).alloc (.cells #[.int .i64 (top : Int)] 3)) w14 (Value.slice A3 M c3).ownBlock) (hv7 : v7.ownBlock = (Value.slice A3 M c3).ownBlock ∨ v7.ownBlock = some ((w12.setCell ⟨X, 2, none⟩ (.slice A6 n6 c6)).alloc (.cells #[.int .i64 (top : Int)] 3)).heap.size); obtain ⟨A7, n7, c7, rfl⟩ := ow_slN ho7; have HK7 := Lib.hid (And.intro hg7 hv7); have hk7 := (HP6.out.2.1.alloc (.cells #[.int .i64 (top : Int)] 3)).grown hg7 (fun e => (HLy.out.1.ap X (.inl rfl)).2.2 (by rw [HM.out.2.2]; exact e.symm)); have HP7 := Lib.hid (push_to (full := false) HP6.out.1 HLy.out.1.RB HLy.out.1.rB HP6.out.2.1 HP6.out.2.2.1 HP6.out.2.2.2.1 HP6.out.2.2.2.2.1 HP6.out.2.2.2.2.2.1 HP6.out.2.2.2.2.2.2.1 HLy.out.1.XN (fun k hk => ⟨(HLy.out.1.ap k hk).1, (HLy.out.1.ap k hk).2.2⟩) HLy.out.1.ap3 ho7 (by rw [HM.out.2.2]; exact hg7) (by rw [HM.out.2.2]; exact hv7)); have i3 := hk7.cell 3; have if3 := hk7.free 3; have iX := hk7.lt; clear ho7 hb7 hg7 hv7 hk7))
      go_ret
      have hB : B ≤ w.heap.size := by have := HP.out.blk.lt; have := HP.out.XN; omega
      have h4 : Below B w3 w4 := HE.out.2.below (Nat.le_trans hB H3.out.size) (fun k hk => by have := HNX.out; omega)
      have eT : cpF (allocW T top sz (ws.getD a 0#64)) ws top a sz = T2 := by rw [HT2.out.1, HT.out.1, HT.out.2.2.2.2.2.2.1]
      rw [eT]
      refine ⟨_, _, _, _, rfl, HP7.out.1, ((((H3.out.mono hB).trans h4).trans HLy.out.2).trans HP6.out.2.2.2.2.2.2.2).trans HP7.out.2, ?_, ?_⟩
      · have K1 := Kept.of_below H3.out (RcS X N fv tv (.slice nA T.length nc))
        have K2 := HE.out.2.more (S' := RcS X N fv tv (.slice nA T.length nc)) (fun k h => .inr (.inl h))
        have K3 := Kept.of_below H10.out.1 (RcS X N fv tv (.slice nA T.length nc))
        have K4 := (Kept.set w10 N 0 (.slice (some ⟨q, 0, none⟩) LT c9)).more (S' := RcS X N fv tv (.slice nA T.length nc)) (fun k h => .inr (.inl h))
        have K5 := Kept.alloc (RcS X N fv tv (.slice nA T.length nc)) (w10.setCell ⟨N, 0, none⟩ (.slice (some ⟨q, 0, none⟩) LT c9)) (.cells #[.int .i64 (a : Int)] 3)
        have K6 := (Kept.grown HK6.out.1).more (S' := RcS X N fv tv (.slice nA T.length nc)) (fun k h => .inr (.inr (.inl (by rw [HM.out.2.1]; exact h))))
        have K7 := (Kept.set w12 X 2 (.slice A6 n6 c6)).more (S' := RcS X N fv tv (.slice nA T.length nc)) (fun k h => .inl h)
        have K8 := Kept.alloc (RcS X N fv tv (.slice nA T.length nc)) (w12.setCell ⟨X, 2, none⟩ (.slice A6 n6 c6)) (.cells #[.int .i64 (top : Int)] 3)
        have K9 := (Kept.grown HK7.out.1).more (S' := RcS X N fv tv (.slice nA T.length nc)) (fun k h => .inr (.inr (.inr (.inl (by rw [HM.out.2.2]; exact h)))))
        have K10 := (Kept.set w14 X 3 (.slice A7 n7 c7)).more (S' := RcS X N fv tv (.slice nA T.length nc)) (fun k h => .inl h)
        exact ((((((((K1.trans K2).trans K3).trans K4).trans K5).trans K6).trans K7).trans K8).trans K9).trans K10
      · have s1 := H3.out.size
        have s2 := HE.out.2.size
        have s3 := H10.out.1.size
        have s4 : w10.heap.size ≤ ((w10.setCell ⟨N, 0, none⟩ (.slice (some ⟨q, 0, none⟩) LT c9)).alloc (.cells #[.int .i64 (a : Int)] 3)).heap.size := ((Kept.set w10 N 0 (.slice (some ⟨q, 0, none⟩) LT c9)).trans (Kept.alloc _ _ _)).size
        have s5 := (Kept.grown HK6.out.1).size
        have s6 : w12.heap.size ≤ ((w12.setCell ⟨X, 2, none⟩ (.slice A6 n6 c6)).alloc (.cells #[.int .i64 (top : Int)] 3)).heap.size := ((Kept.set w12 X 2 (.slice A6 n6 c6)).trans (Kept.alloc _ _ _)).size
        have s7 := H10.out.2.ge.1
        rintro k (h | h | h | h | h)
        · exact .inl (.inl h)
        · exact .inl (.inr (.inl h))
        · rcases HK6.out.2 with e | e
          · exact .inl (.inr (.inr (.inl (by rw [HM.out.2.1, ← e]; exact h))))
          · rw [h] at e
            injection e with e
            exact .inr (by omega)
        · rcases HK7.out.2 with e | e
          · exact .inl (.inr (.inr (.inr (.inl (by rw [HM.out.2.2, ← e]; exact h)))))
          · rw [h] at e
            injection e with e
            exact .inr (by omega)
        · have e : q = k := by injection h
          exact .inr (by omega)
end
end Go.Proofs.Ytbanbpphadgoiaa
/- The reference's copier besides the words' one (pure). No conditions. -/
namespace Go.Proofs.Ytbanbpphadgoiaa
set_option linter.unusedVariables false
set_option linter.unusedSimpArgs false
open Go.RowKit Go.Maps
theorem wentV_snoc (a u : Nat) (x : Int) : ∀ us : List (Nat × Nat), wentV (us ++ [(a, u)]) x = if wentV us x = -1 then (if (a : Int) = x then (u : Int) else -1) else wentV us x
  | [] => rfl
  | p :: r => by
    show (if (p.1 : Int) = x then (p.2 : Int) else wentV (r ++ [(a, u)]) x) = _
    by_cases h : (p.1 : Int) = x
    · have e : wentV (p :: r) x = (p.2 : Int) := by unfold wentV; rw [if_pos h]
      rw [e, if_pos h, if_neg (by omega)]
    · have e : wentV (p :: r) x = wentV r x := by conv => lhs; unfold wentV
                                                  rw [if_neg h]
      rw [e, if_neg h]; exact wentV_snoc a u x r
theorem cpF_get (T ws : List (BitVec 64)) (u a i : Nat) : ∀ k, u + k ≤ T.length → (cpF T ws u a k).getD i 0#64 = if u ≤ i ∧ i < u + k then ws.getD (a + (i - u)) 0#64 else T.getD i 0#64
  | 0, _ => by rw [if_neg (by omega)]; rfl
  | k + 1, h => by
    show ((cpF T ws u a k).set (u + k) (ws.getD (a + k) 0#64)).getD i 0#64 = _
    rw [getD_set (by rw [cpF_len]; omega), cpF_get T ws u a i k (by omega)]
    by_cases e : u + k = i
    · rw [if_pos e, if_pos (by omega), show i - u = k from by omega]
    · rw [if_neg e]
      by_cases h2 : u ≤ i ∧ i < u + k
      · rw [if_pos h2, if_pos (by omega)]
      · rw [if_neg h2, if_neg (by omega)]
theorem getD_ext {xs ys : List (BitVec 64)} (hl : xs.length = ys.length) (h : ∀ i, xs.getD i 0#64 = ys.getD i 0#64) : xs = ys := by
  apply List.ext_getElem hl
  intro i h1 h2
  have := h i
  rw [List.getD_eq_getElem?_getD, List.getD_eq_getElem?_getD, List.getElem?_eq_getElem h1, List.getElem?_eq_getElem h2] at this
  exact this
/-- Where objects went, told twice. -/
structure RelU (l : List Nat) (c : Cy) (us : List (Nat × Nat)) : Prop where
  len : us.length ≤ c.top
  yes : ∀ a ∈ l, fM (c.F.getD a 0#64) = true → wentV us a = ((fT (c.F.getD a 0#64)).toNat : Int)
  no : ∀ a ∈ l, fM (c.F.getD a 0#64) = false → wentV us a = -1
section
variable {ws : List (BitVec 64)} {l : List Nat} {b t : Nat} {c d : Cy} {us : List (Nat × Nat)}
theorem RelU.start (H : Heap ws l b t) (m : Nat) : RelU l ⟨ws, List.replicate m 0#64, 0⟩ [] :=
  ⟨Nat.le_refl _, fun a ha h => (by
    have hg := (H.good a ha).2.2
    have := (goodX_out hg).2.1
    have h : fM (ws.getD a 0#64) = true := h
    rw [this] at h; cases h), fun _ _ _ => rfl⟩
theorem RelU.setC (h : RelU l c us) (i p : Nat) : RelU l (setC c i p) us := ⟨h.len, h.yes, h.no⟩
/-- An object moves: both tell the same words. -/
theorem RelU.mov (H : Heap ws l b t) (hI : InvC l ws b t c) (hU : RelU l c us) {a : Nat} (ha : a ∈ l) (hm : fM (c.F.getD a 0#64) = false) (hf : szX (ws.getD a 0#64) ≤ c.T.length - c.top) :
    cpF (allocW c.T c.top (szX (ws.getD a 0#64)) (ws.getD a 0#64)) ws c.top a (szX (ws.getD a 0#64)) = (movC c a).T ∧ (movC c a).top = c.top + szX (ws.getD a 0#64) ∧ RelU l (movC c a) (us ++ [(a, c.top)]) := by
  obtain ⟨h1, h2, h3, h4, h5⟩ := hI
  have hx := h5 a ha hm
  have hg := (H.good a ha).2.2
  have hn := size_pos hg
  obtain ⟨sz, hsz⟩ : ∃ sz, sz = szX (ws.getD a 0#64) := ⟨_, rfl⟩
  have hgap := H.gap a ha
  rw [← hsz] at hn hf hgap ⊢
  have hle := h2.2.2
  have hT8 := h2.2.1
  have htt : c.top + sz ≤ c.T.length := by omega
  have hal : a < c.F.length := by have := H.tl; have := (H.good a ha).2.1; omega
  have hF : (movC c a).F = c.F.set a (goneW c.top) := rfl
  have htp : (movC c a).top = c.top + sz := by rw [hsz, ← hx]; rfl
  obtain ⟨_, g2, g3⟩ := gone_ok (u := c.top) (by omega)
  refine ⟨getD_ext ?_ fun i => ?_, htp, ⟨?_, fun x hx2 h => ?_, fun x hx2 h => ?_⟩⟩
  · rw [cpF_len, allocW_len, (movC_len c a).2]
  · rw [cpF_get _ _ _ _ _ _ (by rw [allocW_len]; exact htt), mov_get c a i sz (by rw [hx, hsz]) hn htt]
    by_cases hi : c.top ≤ i ∧ i < c.top + sz
    · rw [if_pos hi, if_pos hi]
      by_cases e0 : i - c.top = 0
      · rw [e0]; exact hx.symm
      · exact (h4 _ (hgap _ (by omega) (by omega))).symm
    · rw [if_neg hi, if_neg hi, List.getD_eq_getElem?_getD, allocW_getQ _ _ _ _ _ htt hn, if_neg (by omega), if_neg (by omega), List.getD_eq_getElem?_getD]
  · rw [List.length_append, htp]
    have := hU.len
    simp
    omega
  · rw [hF, getD_set hal] at h ⊢
    by_cases ex : a = x
    · subst ex
      rw [if_pos rfl, wentV_snoc, hU.no a ha hm, if_pos rfl, if_pos rfl, g3]
    · rw [if_neg ex] at h ⊢
      have hy := hU.yes x hx2 h
      rw [wentV_snoc, if_neg (by omega)]
      exact hy
  · rw [hF, getD_set hal] at h
    by_cases ex : a = x
    · subst ex
      rw [if_pos rfl, g2] at h
      cases h
    · rw [if_neg ex] at h
      rw [wentV_snoc, hU.no x hx2 h, if_pos rfl, if_neg (by omega)]
end
end Go.Proofs.Ytbanbpphadgoiaa
/- The reference's Move besides takeP. Conditions: right objects. -/
namespace Go.Proofs.Ytbanbpphadgoiaa
set_option linter.unusedVariables false
set_option linter.unusedSimpArgs false
open Go.RowKit Go.Maps
/-- The reference's copier in memory, besides the words' one; the blocks Fo are foreign to it. -/
def RS (Fo : Nat → Prop) (W : World) (B X R N : Nat) (rA : Option Addr) (rc : Nat) (ws : List (BitVec 64)) (b t e : Nat) (l : List Nat) (m : Nat) (c : Cy) (scan : Nat) (full : Bool) : Prop :=
  ∃ (nA : Option Addr) (nc : Nat) (fv tv : Value) (us : List (Nat × Nat)), RcAt W B X R N rA rc nA nc fv tv ws b t e c.T c.top us scan full ∧ RelU l c us ∧ InvC l ws b t c ∧ c.T.length = m ∧ ∀ k, Fo k → k < W.heap.size ∧ ¬ RcS X N fv tv (.slice nA c.T.length nc) k
section
variable {Fo : Nat → Prop} {B X R N : Nat} {rA : Option Addr} {rc : Nat} {ws : List (BitVec 64)} {b t e : Nat} {l : List Nat} {m : Nat} {c : Cy} {scan : Nat} {full : Bool}
theorem RcAt.kept {S : Nat → Prop} {W W' : World} {nA : Option Addr} {nc : Nat} {fv tv : Value} {T : List (BitVec 64)} {top : Nat} {us : List (Nat × Nat)} (h : RcAt W B X R N rA rc nA nc fv tv ws b t e T top us scan full) (k : Kept S W W') (hS : ∀ j, S j → ¬ RcS X N fv tv (.slice nA T.length nc) j ∧ B ≤ j) : RcAt W' B X R N rA rc nA nc fv tv ws b t e T top us scan full :=
  ⟨h.src.belowB (k.below h.lts.2.2.2.2.2 (fun j hj => (hS j hj).2)) k.size h.RB h.rB, h.RB, h.rB, k.bk h.blk (fun e => (hS _ e).1 (.inl rfl)), k.bk h.nw (fun e => (hS _ e).1 (.inr (.inl rfl))), k.ow h.row (fun j hj e => (hS j e).1 (.inr (.inr (.inr (.inr hj))))), k.ow h.fr (fun j hj e => (hS j e).1 (.inr (.inr (.inl hj)))), k.ow h.to_ (fun j hj e => (hS j e).1 (.inr (.inr (.inr (.inl hj))))), h.XN, h.ap, h.ap2, h.ap3⟩
theorem RcAt.own_lt {W : World} {nA : Option Addr} {nc : Nat} {fv tv : Value} {T : List (BitVec 64)} {top : Nat} {us : List (Nat × Nat)} (h : RcAt W B X R N rA rc nA nc fv tv ws b t e T top us scan full) {k : Nat} (hk : RcS X N fv tv (.slice nA T.length nc) k) : k < W.heap.size := by
  obtain ⟨l1, l2, l3, l4, l5, l6⟩ := h.lts
  rcases hk with h | h | h | h | h
  · omega
  · omega
  · exact (l3 k h).2
  · exact (l4 k h).2
  · exact (l5 k h).2
theorem RcS.len {X N : Nat} {fv tv : Value} {A : Option Addr} {n n' c k : Nat} (h : RcS X N fv tv (.slice A n c) k) : RcS X N fv tv (.slice A n' c) k := by
  unfold RcS at h ⊢
  have e : (Value.slice A n' c).ownBlock = (Value.slice A n c).ownBlock := by cases A <;> rfl
  rw [e]; exact h
theorem RS.below {W W' : World} (h : RS Fo W B X R N rA rc ws b t e l m c scan full) (hb : Below W.heap.size W W') : RS Fo W' B X R N rA rc ws b t e l m c scan full := by
  obtain ⟨nA, nc, fv, tv, us, h1, h2, h3, h4, h5⟩ := h
  exact ⟨nA, nc, fv, tv, us, h1.below hb, h2, h3, h4, fun k hk => ⟨Nat.lt_of_lt_of_le (h5 k hk).1 hb.size, (h5 k hk).2⟩⟩
theorem RS.narrow {W : World} {Fo' : Nat → Prop} (h : RS Fo W B X R N rA rc ws b t e l m c scan full) (hF : ∀ k, Fo' k → Fo k) : RS Fo' W B X R N rA rc ws b t e l m c scan full := by
  obtain ⟨nA, nc, fv, tv, us, h1, h2, h3, h4, h5⟩ := h
  exact ⟨nA, nc, fv, tv, us, h1, h2, h3, h4, fun k hk => h5 k (hF k hk)⟩
theorem RS.widen {W W' : World} {Fo' : Nat → Prop} (h : RS Fo W B X R N rA rc ws b t e l m c scan full) (hb : Below W.heap.size W W') (hF : ∀ k, Fo' k → Fo k ∨ (W.heap.size ≤ k ∧ k < W'.heap.size)) : RS Fo' W' B X R N rA rc ws b t e l m c scan full := by
  obtain ⟨nA, nc, fv, tv, us, h1, h2, h3, h4, h5⟩ := h
  refine ⟨nA, nc, fv, tv, us, h1.below hb, h2, h3, h4, fun k hk => ?_⟩
  rcases hF k hk with h | h
  · exact ⟨Nat.lt_of_lt_of_le (h5 k h).1 hb.size, (h5 k h).2⟩
  · exact ⟨h.2, fun e => by have := h1.own_lt e; omega⟩
theorem RS.kept {S Fo' : Nat → Prop} {W W' : World} (h : RS Fo W B X R N rA rc ws b t e l m c scan full) (k : Kept S W W') (hS : ∀ j, S j → Fo j ∧ B ≤ j) (hF : ∀ k, Fo' k → Fo k ∨ (W.heap.size ≤ k ∧ k < W'.heap.size)) : RS Fo' W' B X R N rA rc ws b t e l m c scan full := by
  obtain ⟨nA, nc, fv, tv, us, h1, h2, h3, h4, h5⟩ := h
  refine ⟨nA, nc, fv, tv, us, h1.kept k (fun j hj => ⟨(h5 j (hS j hj).1).2, (hS j hj).2⟩), h2, h3, h4, fun j hj => ?_⟩
  rcases hF j hj with h | h
  · exact ⟨Nat.lt_of_lt_of_le (h5 j h).1 k.size, (h5 j h).2⟩
  · exact ⟨h.2, fun e => by have := h1.own_lt e; omega⟩
theorem RS.B_le {W : World} (h : RS Fo W B X R N rA rc ws b t e l m c scan full) : B ≤ W.heap.size ∧ X < W.heap.size ∧ N < W.heap.size ∧ B ≤ X := by
  obtain ⟨nA, nc, fv, tv, us, h1, h2⟩ := h
  have := h1.lts
  have := h1.XN
  exact ⟨by omega, by omega, by omega, by omega⟩
def MoveR (Fo : Nat → Prop) (w : World) (B X R N : Nat) (rA : Option Addr) (rc : Nat) (ws : List (BitVec 64)) (b t e : Nat) (l : List Nat) (m : Nat) (c : Cy) (scan : Nat) (x : Option (Nat × Cy)) (r : Ending) (w' : World) : Prop := match x with
  | some (q, d) => r = .returned (.int .i64 ((q : Int) - 1)) ∧ RS Fo w' B X R N rA rc ws b t e l m d scan false ∧ Below B w w' ∧ Kept (fun k => ¬ Fo k) w w'
  | none => r = .returned (.int .i64 (-1)) ∧ RS Fo w' B X R N rA rc ws b t e l m c scan true ∧ Below B w w' ∧ Kept (fun k => ¬ Fo k) w w'
theorem rmove_c (w : World) (H : Heap ws l b t) (h : RS Fo w B X R N rA rc ws b t e l m c scan false) (k : Nat) (hk : k = 0 ∨ (1 ≤ k ∧ k - 1 ∈ l)) :
    Calls Try.prog 36 #[.pointer (some ⟨X, 0, none⟩), .int .i64 ((k : Int) - 1)] w (MoveR Fo w B X R N rA rc ws b t e l m c scan (takeP c k)) := by
  have hB := h.B_le.1
  have hh := h
  obtain ⟨nA, nc, fv, tv, us, h1, hU, hI, hm, hFo⟩ := h
  have hL := hI.2.1
  have hul : us.length ≤ 100000 := by have := hU.len; have := hL.2.1; have := hL.2.2; omega
  cases k with
  | zero =>
    refine (move_neg w (((0 : Nat) : Int) - 1) (by omega)).mono ?_
    rintro r w' ⟨rfl, b2⟩
    exact ⟨rfl, hh.below b2, b2.mono hB, Kept.of_below b2 _⟩
  | succ a =>
    have ha : a ∈ l := by
      rcases hk with hk | ⟨_, hk⟩
      · cases hk
      · simpa using hk
    have e0 : ((a + 1 : Nat) : Int) - 1 = (a : Int) := by omega
    rw [e0]
    have et : takeP c (a + 1) = (takeC c a).map fun r => (r.1 + 1, r.2) := rfl
    rw [et]
    unfold takeC
    cases hm' : fM (c.F.getD a 0#64) with
    | true =>
      rw [if_pos rfl]
      refine (move_went w h1 hul a _ (hU.yes a ha hm')).mono ?_
      rintro r w' ⟨rfl, b2⟩
      refine ⟨?_, hh.below b2, b2.mono hB, Kept.of_below b2 _⟩
      congr 2
      show _ = (((fT (c.F.getD a 0#64)).toNat + 1 : Nat) : Int) - 1
      omega
    | false =>
      rw [if_neg (by decide)]
      have hx := hI.2.2.2.2 a ha hm'
      have hg := (H.good a ha).2.2
      have hat := (H.good a ha).2.1
      have hno := hU.no a ha hm'
      have hfs : szX (ws.getD a 0#64) ≤ t - a := by
        unfold goodX at hg
        simp only [Bool.and_eq_true, decide_eq_true_eq] at hg
        exact hg.2.2
      have htl := H.tl
      rw [hx]
      by_cases hf : szX (ws.getD a 0#64) ≤ c.T.length - c.top
      · rw [if_pos hf]
        obtain ⟨m1, m2, m3⟩ := RelU.mov H hI hU ha hm' hf
        obtain ⟨hI2, _⟩ := takeC_inv H hI ha (show takeC c a = some (c.top, movC c a) by unfold takeC; rw [hm', if_neg (by decide), hx, if_pos hf])
        refine (move_ok w h1 hul H.wl hL.2.1 hL.2.2 a (by omega) (t - a) hg hno hf _ rfl).mono ?_
        rintro r w' ⟨nA', nc', fv', tv', rfl, hr, b2, kp, kn⟩
        have kn' : ∀ k, Fo k → k < w'.heap.size ∧ ¬ RcS X N fv' tv' (.slice nA' (movC c a).T.length nc') k := fun k hk => ⟨Nat.lt_of_lt_of_le (hFo k hk).1 kp.size, fun e => by
          rcases kn k e.len with h | h
          · exact (hFo k hk).2 h
          · have := (hFo k hk).1; omega⟩
        rw [m1, ← m2] at hr
        refine ⟨?_, ⟨nA', nc', fv', tv', _, hr, m3, hI2, by rw [(movC_len c a).2, hm], kn'⟩, b2, kp.more (fun k hk hf => (hFo k hf).2 hk)⟩
        congr 2
        show _ = ((c.top + 1 : Nat) : Int) - 1
        omega
      · rw [if_neg hf]
        refine (move_nofit w h1 hul H.wl hL.2.1 hL.2.2 a (by omega) (t - a) hg hno hf).mono ?_
        rintro r w' ⟨rfl, hr, b2, kp⟩
        exact ⟨rfl, ⟨nA, nc, fv, tv, us, hr, hU, hI, hm, fun k hk => ⟨Nat.lt_of_lt_of_le (hFo k hk).1 kp.size, (hFo k hk).2⟩⟩, b2, kp.more (fun k hk hf => (hFo k hf).2 (.inl hk))⟩
/-- Move of a copier that is full: nothing changes. -/
theorem rmove_full (w : World) (h : RS Fo w B X R N rA rc ws b t e l m c scan true) (k : Nat) (hk : k = 0 ∨ (1 ≤ k ∧ k - 1 ∈ l)) :
    Calls Try.prog 36 #[.pointer (some ⟨X, 0, none⟩), .int .i64 ((k : Int) - 1)] w (fun r w' => ∃ v : Int, r = .returned (.int .i64 v) ∧ Below w.heap.size w w') := by
  obtain ⟨nA, nc, fv, tv, us, h1, hU, hI, hm, hFo⟩ := h
  have hL := hI.2.1
  have hul : us.length ≤ 100000 := by have := hU.len; have := hL.2.1; have := hL.2.2; omega
  cases k with
  | zero =>
    refine (move_neg w (((0 : Nat) : Int) - 1) (by omega)).mono ?_
    rintro r w' ⟨rfl, b2⟩
    exact ⟨_, rfl, b2⟩
  | succ a =>
    have ha : a ∈ l := by
      rcases hk with hk | ⟨_, hk⟩
      · cases hk
      · simpa using hk
    have e0 : ((a + 1 : Nat) : Int) - 1 = (a : Int) := by omega
    rw [e0]
    cases hm' : fM (c.F.getD a 0#64) with
    | true =>
      refine (move_went w h1 hul a _ (hU.yes a ha hm')).mono ?_
      rintro r w' ⟨rfl, b2⟩
      exact ⟨_, rfl, b2⟩
    | false =>
      refine (move_full w h1 hul a (hU.no a ha hm')).mono ?_
      rintro r w' ⟨rfl, b2⟩
      exact ⟨_, rfl, b2⟩
end
end Go.Proofs.Ytbanbpphadgoiaa
/- The reference's One: its regions. Conditions: right places. -/
namespace Go.Proofs.Ytbanbpphadgoiaa
set_option linter.unusedVariables false
set_option linter.unusedSimpArgs false
open Go.RowKit Go.Maps
set_option maxHeartbeats 1000000
set_option maxRecDepth 100000
theorem on1t (Q : Exit → Act → World → Prop) (a0 : Act) (w : World) (X N : Nat) (s tp : Int) (hX : X < w.heap.size) (hN : N < w.heap.size) (x1 : w.cell? ⟨X, 1, none⟩ = some (.pointer (some ⟨N, 0, none⟩))) (x4 : w.cell? ⟨X, 4, none⟩ = some (.int .i64 s)) (n2 : w.cell? ⟨N, 2, none⟩ = some (.int .i64 tp)) (hlt : tp ≤ s) (hsz : a0.tmps.size = 115) (sl0 : a0.tmps.getD 0 undef = .pointer (some ⟨X, 0, none⟩))
    (fin : ∀ (vals : Nat → Value) (w1 : World), Below w.heap.size w w1 → (IsV (.bool true)) (vals 17) w1 → Q .normal (putD vals [9, 10, 11, 12, 13, 14, 15, 16, 17, 18, 19, 20, 21, 22, 23, 24, 25, 26] 0 a0) w1) :
    (Code.region 1 (regIn Try.f37 1) true).wp Try.prog Q a0 w := by
  refine region_by (G := fun w w1 => Below w.heap.size w w1) [IsV (.pointer (some ⟨X, 0, none⟩)),
    IsV (.pointer (some ⟨X, 0, none⟩)),
    IsV (.pointer (some ⟨X, 4, none⟩)),
    IsV (.int .i64 s),
    IsV (.pointer (some ⟨X, 0, none⟩)),
    IsV (.pointer (some ⟨X, 0, none⟩)),
    IsV (.pointer (some ⟨X, 1, none⟩)),
    IsV (.pointer (some ⟨N, 0, none⟩)),
    IsV (.pointer (some ⟨N, 0, none⟩)),
    IsV (.pointer (some ⟨N, 2, none⟩)),
    IsV (.int .i64 tp),
    IsV (.bool true),
    IsV (.bool true),
    IsV undef,
    IsV undef,
    IsV undef,
    IsV undef,
    IsV (.bool true)]
    [9, 10, 11, 12, 13, 14, 15, 16, 17, 18, 19, 20, 21, 22, 23, 24, 25, 26] (by kernel_rfl) (Gw.drew _) Gw.trans (by rw [hsz]; kernel_rfl) (by kernel_rfl) ?_ ?_ ?_
  · intro f hf
    simp only [List.mem_cons, List.not_mem_nil, or_false] at hf
    rcases hf with rfl | rfl | rfl | rfl | rfl | rfl | rfl | rfl | rfl | rfl | rfl | rfl | rfl | rfl | rfl | rfl | rfl | rfl <;> intro v a b h g <;> first | exact IsV.mono h
  · refine ⟨?_, ?_, ?_, ?_, ?_, ?_, ?_, ?_, ?_, ?_, ?_, ?_, ?_, ?_, ?_, ?_, ?_, ?_, trivial⟩
    · exact owes_mv 0 (by kernel_rfl) (by kernel_rfl) (by kernel_rfl) sl0 (fun _ => rfl)
    · refine owes_v (Go.Op.nilCheck (Go.Operand.tmp 9)) 0 [0] (by kernel_rfl) (by kernel_rfl) (by kernel_rfl) rfl fun vals w1 ρ hG hF hρ hcst hfun => ?_
      have e9 : ρ (.tmp 9) = .pointer (some ⟨X, 0, none⟩) := ((hρ 9).trans (slotJ [0] (by rw [hsz]; decide) (by kernel_rfl))).trans (hF 0 (by decide))
      clear hρ hF hcst hfun sl0 fin
      exact opv_val (by go_simp <;> rfl) ⟨gw_self _, rfl⟩
    · refine owes_v (Go.Op.fieldAddr 49 (Go.Operand.tmp 10) 4) 0 [1] (by kernel_rfl) (by kernel_rfl) (by kernel_rfl) rfl fun vals w1 ρ hG hF hρ hcst hfun => ?_
      have e10 : ρ (.tmp 10) = .pointer (some ⟨X, 0, none⟩) := ((hρ 10).trans (slotJ [1] (by rw [hsz]; decide) (by kernel_rfl))).trans (hF 1 (by decide))
      clear hρ hF hcst hfun sl0 fin
      exact opv_val (by go_simp <;> rfl) ⟨gw_self _, rfl⟩
    · refine owes_v (Go.Op.load 3 (Go.Operand.tmp 11)) 3 [2] (by kernel_rfl) (by kernel_rfl) (by kernel_rfl) rfl fun vals w1 ρ hG hF hρ hcst hfun => ?_
      have e11 : ρ (.tmp 11) = .pointer (some ⟨X, 4, none⟩) := ((hρ 11).trans (slotJ [2] (by rw [hsz]; decide) (by kernel_rfl))).trans (hF 2 (by decide))
      have k := (hG.cell (p := ⟨X, 4, none⟩) hX).trans x4
      clear hρ hF hcst hfun sl0 fin
      exact opv_val (by go_simp <;> rfl) ⟨gw_self _, rfl⟩
    · exact owes_mv 0 (by kernel_rfl) (by kernel_rfl) (by kernel_rfl) sl0 (fun _ => rfl)
    · refine owes_v (Go.Op.nilCheck (Go.Operand.tmp 13)) 0 [4] (by kernel_rfl) (by kernel_rfl) (by kernel_rfl) rfl fun vals w1 ρ hG hF hρ hcst hfun => ?_
      have e13 : ρ (.tmp 13) = .pointer (some ⟨X, 0, none⟩) := ((hρ 13).trans (slotJ [4] (by rw [hsz]; decide) (by kernel_rfl))).trans (hF 4 (by decide))
      clear hρ hF hcst hfun sl0 fin
      exact opv_val (by go_simp <;> rfl) ⟨gw_self _, rfl⟩
    · refine owes_v (Go.Op.fieldAddr 49 (Go.Operand.tmp 14) 1) 0 [5] (by kernel_rfl) (by kernel_rfl) (by kernel_rfl) rfl fun vals w1 ρ hG hF hρ hcst hfun => ?_
      have e14 : ρ (.tmp 14) = .pointer (some ⟨X, 0, none⟩) := ((hρ 14).trans (slotJ [5] (by rw [hsz]; decide) (by kernel_rfl))).trans (hF 5 (by decide))
      clear hρ hF hcst hfun sl0 fin
      exact opv_val (by go_simp <;> rfl) ⟨gw_self _, rfl⟩
    · refine owes_v (Go.Op.load 28 (Go.Operand.tmp 15)) 28 [6] (by kernel_rfl) (by kernel_rfl) (by kernel_rfl) rfl fun vals w1 ρ hG hF hρ hcst hfun => ?_
      have e15 : ρ (.tmp 15) = .pointer (some ⟨X, 1, none⟩) := ((hρ 15).trans (slotJ [6] (by rw [hsz]; decide) (by kernel_rfl))).trans (hF 6 (by decide))
      have k := (hG.cell (p := ⟨X, 1, none⟩) hX).trans x1
      clear hρ hF hcst hfun sl0 fin
      exact opv_val (by go_simp <;> rfl) ⟨gw_self _, rfl⟩
    · refine owes_v (Go.Op.nilCheck (Go.Operand.tmp 16)) 0 [7] (by kernel_rfl) (by kernel_rfl) (by kernel_rfl) rfl fun vals w1 ρ hG hF hρ hcst hfun => ?_
      have e16 : ρ (.tmp 16) = .pointer (some ⟨N, 0, none⟩) := ((hρ 16).trans (slotJ [7] (by rw [hsz]; decide) (by kernel_rfl))).trans (hF 7 (by decide))
      clear hρ hF hcst hfun sl0 fin
      exact opv_val (by go_simp <;> rfl) ⟨gw_self _, rfl⟩
    · refine owes_v (Go.Op.fieldAddr 30 (Go.Operand.tmp 17) 2) 0 [8] (by kernel_rfl) (by kernel_rfl) (by kernel_rfl) rfl fun vals w1 ρ hG hF hρ hcst hfun => ?_
      have e17 : ρ (.tmp 17) = .pointer (some ⟨N, 0, none⟩) := ((hρ 17).trans (slotJ [8] (by rw [hsz]; decide) (by kernel_rfl))).trans (hF 8 (by decide))
      clear hρ hF hcst hfun sl0 fin
      exact opv_val (by go_simp <;> rfl) ⟨gw_self _, rfl⟩
    · refine owes_v (Go.Op.load 3 (Go.Operand.tmp 18)) 3 [9] (by kernel_rfl) (by kernel_rfl) (by kernel_rfl) rfl fun vals w1 ρ hG hF hρ hcst hfun => ?_
      have e18 : ρ (.tmp 18) = .pointer (some ⟨N, 2, none⟩) := ((hρ 18).trans (slotJ [9] (by rw [hsz]; decide) (by kernel_rfl))).trans (hF 9 (by decide))
      have k := (hG.cell (p := ⟨N, 2, none⟩) hN).trans n2
      clear hρ hF hcst hfun sl0 fin
      exact opv_val (by go_simp <;> rfl) ⟨gw_self _, rfl⟩
    · refine owes_v (Go.Op.binOp Go.BinOp.geq 3 (Go.Operand.tmp 12) (Go.Operand.tmp 19) 3) 4 [3, 10] (by kernel_rfl) (by kernel_rfl) (by kernel_rfl) rfl fun vals w1 ρ hG hF hρ hcst hfun => ?_
      have e12 : ρ (.tmp 12) = .int .i64 s := ((hρ 12).trans (slotJ [3, 10] (by rw [hsz]; decide) (by kernel_rfl))).trans (hF 3 (by decide))
      have e19 : ρ (.tmp 19) = .int .i64 tp := ((hρ 19).trans (slotJ [3, 10] (by rw [hsz]; decide) (by kernel_rfl))).trans (hF 10 (by decide))
      clear hρ hF hcst hfun sl0 fin
      exact opv_val (by go_simp <;> rfl) ⟨gw_self _, rfl⟩
    · exact owes_mvj 11 20 (by kernel_rfl) (by kernel_rfl) (by kernel_rfl) (by kernel_rfl) (by rw [hsz]; decide) (fun v w h => h)
    · exact owes_no 12 true false (by decide) (by kernel_rfl) (by kernel_rfl) (fun _ _ h => h) (by rw [hsz]; kernel_rfl) (fun _ => rfl)
    · exact owes_no 12 true false (by decide) (by kernel_rfl) (by kernel_rfl) (fun _ _ h => h) (by rw [hsz]; kernel_rfl) (fun _ => rfl)
    · exact owes_no 12 true false (by decide) (by kernel_rfl) (by kernel_rfl) (fun _ _ h => h) (by rw [hsz]; kernel_rfl) (fun _ => rfl)
    · exact owes_no 12 true false (by decide) (by kernel_rfl) (by kernel_rfl) (fun _ _ h => h) (by rw [hsz]; kernel_rfl) (fun _ => rfl)
    · refine owes_v (Go.Op.pick (Go.Operand.tmp 21) (Go.Operand.const (Go.Value.bool true)) (Go.Operand.tmp 25)) 4 [12, 16] (by kernel_rfl) (by kernel_rfl) (by kernel_rfl) rfl fun vals w1 ρ hG hF hρ hcst hfun => ?_
      have e21 : ρ (.tmp 21) = .bool true := ((hρ 21).trans (slotJ [12, 16] (by rw [hsz]; decide) (by kernel_rfl))).trans (hF 12 (by decide))
      have e25 : ρ (.tmp 25) = undef := ((hρ 25).trans (slotJ [12, 16] (by rw [hsz]; decide) (by kernel_rfl))).trans (hF 16 (by decide))
      clear hρ hF hfun sl0 fin
      exact opv_val (by go_simp <;> rfl) ⟨gw_self _, rfl⟩
  · intro vals w1 hG hF
    exact fin vals w1 hG (hF 17 (by decide +kernel))
theorem on1f (Q : Exit → Act → World → Prop) (a0 : Act) (w : World) (X N : Nat) (s tp : Int) (fu : Bool) (hX : X < w.heap.size) (hN : N < w.heap.size) (x1 : w.cell? ⟨X, 1, none⟩ = some (.pointer (some ⟨N, 0, none⟩))) (x4 : w.cell? ⟨X, 4, none⟩ = some (.int .i64 s)) (x5 : w.cell? ⟨X, 5, none⟩ = some (.bool fu)) (n2 : w.cell? ⟨N, 2, none⟩ = some (.int .i64 tp)) (hlt : s < tp) (hsz : a0.tmps.size = 115) (sl0 : a0.tmps.getD 0 undef = .pointer (some ⟨X, 0, none⟩))
    (fin : ∀ (vals : Nat → Value) (w1 : World), Below w.heap.size w w1 → (IsV (.bool fu)) (vals 17) w1 → Q .normal (putD vals [9, 10, 11, 12, 13, 14, 15, 16, 17, 18, 19, 20, 21, 22, 23, 24, 25, 26] 0 a0) w1) :
    (Code.region 1 (regIn Try.f37 1) true).wp Try.prog Q a0 w := by
  refine region_by (G := fun w w1 => Below w.heap.size w w1) [IsV (.pointer (some ⟨X, 0, none⟩)),
    IsV (.pointer (some ⟨X, 0, none⟩)),
    IsV (.pointer (some ⟨X, 4, none⟩)),
    IsV (.int .i64 s),
    IsV (.pointer (some ⟨X, 0, none⟩)),
    IsV (.pointer (some ⟨X, 0, none⟩)),
    IsV (.pointer (some ⟨X, 1, none⟩)),
    IsV (.pointer (some ⟨N, 0, none⟩)),
    IsV (.pointer (some ⟨N, 0, none⟩)),
    IsV (.pointer (some ⟨N, 2, none⟩)),
    IsV (.int .i64 tp),
    IsV (.bool false),
    IsV (.bool false),
    IsV (.pointer (some ⟨X, 0, none⟩)),
    IsV (.pointer (some ⟨X, 0, none⟩)),
    IsV (.pointer (some ⟨X, 5, none⟩)),
    IsV (.bool fu),
    IsV (.bool fu)]
    [9, 10, 11, 12, 13, 14, 15, 16, 17, 18, 19, 20, 21, 22, 23, 24, 25, 26] (by kernel_rfl) (Gw.drew _) Gw.trans (by rw [hsz]; kernel_rfl) (by kernel_rfl) ?_ ?_ ?_
  · intro f hf
    simp only [List.mem_cons, List.not_mem_nil, or_false] at hf
    rcases hf with rfl | rfl | rfl | rfl | rfl | rfl | rfl | rfl | rfl | rfl | rfl | rfl | rfl | rfl | rfl | rfl | rfl | rfl <;> intro v a b h g <;> first | exact IsV.mono h
  · refine ⟨?_, ?_, ?_, ?_, ?_, ?_, ?_, ?_, ?_, ?_, ?_, ?_, ?_, ?_, ?_, ?_, ?_, ?_, trivial⟩
    · exact owes_mv 0 (by kernel_rfl) (by kernel_rfl) (by kernel_rfl) sl0 (fun _ => rfl)
    · refine owes_v (Go.Op.nilCheck (Go.Operand.tmp 9)) 0 [0] (by kernel_rfl) (by kernel_rfl) (by kernel_rfl) rfl fun vals w1 ρ hG hF hρ hcst hfun => ?_
      have e9 : ρ (.tmp 9) = .pointer (some ⟨X, 0, none⟩) := ((hρ 9).trans (slotJ [0] (by rw [hsz]; decide) (by kernel_rfl))).trans (hF 0 (by decide))
      clear hρ hF hcst hfun sl0 fin
      exact opv_val (by go_simp <;> rfl) ⟨gw_self _, rfl⟩
    · refine owes_v (Go.Op.fieldAddr 49 (Go.Operand.tmp 10) 4) 0 [1] (by kernel_rfl) (by kernel_rfl) (by kernel_rfl) rfl fun vals w1 ρ hG hF hρ hcst hfun => ?_
      have e10 : ρ (.tmp 10) = .pointer (some ⟨X, 0, none⟩) := ((hρ 10).trans (slotJ [1] (by rw [hsz]; decide) (by kernel_rfl))).trans (hF 1 (by decide))
      clear hρ hF hcst hfun sl0 fin
      exact opv_val (by go_simp <;> rfl) ⟨gw_self _, rfl⟩
    · refine owes_v (Go.Op.load 3 (Go.Operand.tmp 11)) 3 [2] (by kernel_rfl) (by kernel_rfl) (by kernel_rfl) rfl fun vals w1 ρ hG hF hρ hcst hfun => ?_
      have e11 : ρ (.tmp 11) = .pointer (some ⟨X, 4, none⟩) := ((hρ 11).trans (slotJ [2] (by rw [hsz]; decide) (by kernel_rfl))).trans (hF 2 (by decide))
      have k := (hG.cell (p := ⟨X, 4, none⟩) hX).trans x4
      clear hρ hF hcst hfun sl0 fin
      exact opv_val (by go_simp <;> rfl) ⟨gw_self _, rfl⟩
    · exact owes_mv 0 (by kernel_rfl) (by kernel_rfl) (by kernel_rfl) sl0 (fun _ => rfl)
    · refine owes_v (Go.Op.nilCheck (Go.Operand.tmp 13)) 0 [4] (by kernel_rfl) (by kernel_rfl) (by kernel_rfl) rfl fun vals w1 ρ hG hF hρ hcst hfun => ?_
      have e13 : ρ (.tmp 13) = .pointer (some ⟨X, 0, none⟩) := ((hρ 13).trans (slotJ [4] (by rw [hsz]; decide) (by kernel_rfl))).trans (hF 4 (by decide))
      clear hρ hF hcst hfun sl0 fin
      exact opv_val (by go_simp <;> rfl) ⟨gw_self _, rfl⟩
    · refine owes_v (Go.Op.fieldAddr 49 (Go.Operand.tmp 14) 1) 0 [5] (by kernel_rfl) (by kernel_rfl) (by kernel_rfl) rfl fun vals w1 ρ hG hF hρ hcst hfun => ?_
      have e14 : ρ (.tmp 14) = .pointer (some ⟨X, 0, none⟩) := ((hρ 14).trans (slotJ [5] (by rw [hsz]; decide) (by kernel_rfl))).trans (hF 5 (by decide))
      clear hρ hF hcst hfun sl0 fin
      exact opv_val (by go_simp <;> rfl) ⟨gw_self _, rfl⟩
    · refine owes_v (Go.Op.load 28 (Go.Operand.tmp 15)) 28 [6] (by kernel_rfl) (by kernel_rfl) (by kernel_rfl) rfl fun vals w1 ρ hG hF hρ hcst hfun => ?_
      have e15 : ρ (.tmp 15) = .pointer (some ⟨X, 1, none⟩) := ((hρ 15).trans (slotJ [6] (by rw [hsz]; decide) (by kernel_rfl))).trans (hF 6 (by decide))
      have k := (hG.cell (p := ⟨X, 1, none⟩) hX).trans x1
      clear hρ hF hcst hfun sl0 fin
      exact opv_val (by go_simp <;> rfl) ⟨gw_self _, rfl⟩
    · refine owes_v (Go.Op.nilCheck (Go.Operand.tmp 16)) 0 [7] (by kernel_rfl) (by kernel_rfl) (by kernel_rfl) rfl fun vals w1 ρ hG hF hρ hcst hfun => ?_
      have e16 : ρ (.tmp 16) = .pointer (some ⟨N, 0, none⟩) := ((hρ 16).trans (slotJ [7] (by rw [hsz]; decide) (by kernel_rfl))).trans (hF 7 (by decide))
      clear hρ hF hcst hfun sl0 fin
      exact opv_val (by go_simp <;> rfl) ⟨gw_self _, rfl⟩
    · refine owes_v (Go.Op.fieldAddr 30 (Go.Operand.tmp 17) 2) 0 [8] (by kernel_rfl) (by kernel_rfl) (by kernel_rfl) rfl fun vals w1 ρ hG hF hρ hcst hfun => ?_
      have e17 : ρ (.tmp 17) = .pointer (some ⟨N, 0, none⟩) := ((hρ 17).trans (slotJ [8] (by rw [hsz]; decide) (by kernel_rfl))).trans (hF 8 (by decide))
      clear hρ hF hcst hfun sl0 fin
      exact opv_val (by go_simp <;> rfl) ⟨gw_self _, rfl⟩
    · refine owes_v (Go.Op.load 3 (Go.Operand.tmp 18)) 3 [9] (by kernel_rfl) (by kernel_rfl) (by kernel_rfl) rfl fun vals w1 ρ hG hF hρ hcst hfun => ?_
      have e18 : ρ (.tmp 18) = .pointer (some ⟨N, 2, none⟩) := ((hρ 18).trans (slotJ [9] (by rw [hsz]; decide) (by kernel_rfl))).trans (hF 9 (by decide))
      have k := (hG.cell (p := ⟨N, 2, none⟩) hN).trans n2
      clear hρ hF hcst hfun sl0 fin
      exact opv_val (by go_simp <;> rfl) ⟨gw_self _, rfl⟩
    · refine owes_v (Go.Op.binOp Go.BinOp.geq 3 (Go.Operand.tmp 12) (Go.Operand.tmp 19) 3) 4 [3, 10] (by kernel_rfl) (by kernel_rfl) (by kernel_rfl) rfl fun vals w1 ρ hG hF hρ hcst hfun => ?_
      have e12 : ρ (.tmp 12) = .int .i64 s := ((hρ 12).trans (slotJ [3, 10] (by rw [hsz]; decide) (by kernel_rfl))).trans (hF 3 (by decide))
      have e19 : ρ (.tmp 19) = .int .i64 tp := ((hρ 19).trans (slotJ [3, 10] (by rw [hsz]; decide) (by kernel_rfl))).trans (hF 10 (by decide))
      clear hρ hF hcst hfun sl0 fin
      exact opv_val (by go_simp <;> rfl) ⟨gw_self _, rfl⟩
    · exact owes_mvj 11 20 (by kernel_rfl) (by kernel_rfl) (by kernel_rfl) (by kernel_rfl) (by rw [hsz]; decide) (fun v w h => h)
    · refine owes_vt 12 false (Go.Op.move (Go.Operand.tmp 0)) 38 [] (by kernel_rfl) (by kernel_rfl) (by kernel_rfl) (fun _ _ h => h) (by rw [hsz]; kernel_rfl) (by kernel_rfl) rfl fun vals w1 ρ hG hF hρ hcst hfun => ?_
      have e0 : ρ (.tmp 0) = .pointer (some ⟨X, 0, none⟩) := ((hρ 0).trans (slotO [] (by kernel_rfl))).trans sl0
      clear hρ hF hcst hfun sl0 fin
      exact opv_val (by go_simp <;> rfl) ⟨gw_self _, rfl⟩
    · refine owes_vt 12 false (Go.Op.nilCheck (Go.Operand.tmp 22)) 0 [13] (by kernel_rfl) (by kernel_rfl) (by kernel_rfl) (fun _ _ h => h) (by rw [hsz]; kernel_rfl) (by kernel_rfl) rfl fun vals w1 ρ hG hF hρ hcst hfun => ?_
      have e22 : ρ (.tmp 22) = .pointer (some ⟨X, 0, none⟩) := ((hρ 22).trans (slotJ [13] (by rw [hsz]; decide) (by kernel_rfl))).trans (hF 13 (by decide))
      clear hρ hF hcst hfun sl0 fin
      exact opv_val (by go_simp <;> rfl) ⟨gw_self _, rfl⟩
    · refine owes_vt 12 false (Go.Op.fieldAddr 49 (Go.Operand.tmp 23) 5) 0 [14] (by kernel_rfl) (by kernel_rfl) (by kernel_rfl) (fun _ _ h => h) (by rw [hsz]; kernel_rfl) (by kernel_rfl) rfl fun vals w1 ρ hG hF hρ hcst hfun => ?_
      have e23 : ρ (.tmp 23) = .pointer (some ⟨X, 0, none⟩) := ((hρ 23).trans (slotJ [14] (by rw [hsz]; decide) (by kernel_rfl))).trans (hF 14 (by decide))
      clear hρ hF hcst hfun sl0 fin
      exact opv_val (by go_simp <;> rfl) ⟨gw_self _, rfl⟩
    · refine owes_vt 12 false (Go.Op.load 4 (Go.Operand.tmp 24)) 4 [15] (by kernel_rfl) (by kernel_rfl) (by kernel_rfl) (fun _ _ h => h) (by rw [hsz]; kernel_rfl) (by kernel_rfl) rfl fun vals w1 ρ hG hF hρ hcst hfun => ?_
      have e24 : ρ (.tmp 24) = .pointer (some ⟨X, 5, none⟩) := ((hρ 24).trans (slotJ [15] (by rw [hsz]; decide) (by kernel_rfl))).trans (hF 15 (by decide))
      have k := (hG.cell (p := ⟨X, 5, none⟩) hX).trans x5
      clear hρ hF hcst hfun sl0 fin
      exact opv_val (by go_simp <;> rfl) ⟨gw_self _, rfl⟩
    · refine owes_v (Go.Op.pick (Go.Operand.tmp 21) (Go.Operand.const (Go.Value.bool true)) (Go.Operand.tmp 25)) 4 [12, 16] (by kernel_rfl) (by kernel_rfl) (by kernel_rfl) rfl fun vals w1 ρ hG hF hρ hcst hfun => ?_
      have e21 : ρ (.tmp 21) = .bool false := ((hρ 21).trans (slotJ [12, 16] (by rw [hsz]; decide) (by kernel_rfl))).trans (hF 12 (by decide))
      have e25 : ρ (.tmp 25) = .bool fu := ((hρ 25).trans (slotJ [12, 16] (by rw [hsz]; decide) (by kernel_rfl))).trans (hF 16 (by decide))
      clear hρ hF hfun sl0 fin
      exact opv_val (by go_simp <;> rfl) ⟨gw_self _, rfl⟩
  · intro vals w1 hG hF
    exact fin vals w1 hG (hF 17 (by decide +kernel))
theorem on3 (Q : Exit → Act → World → Prop) (a0 : Act) (w : World) (X N s : Nat) (A : Option Addr) (L c : Nat) (x : BitVec 64) (P n : Int) (hX : X < w.heap.size) (hN : N < w.heap.size) (x1 : w.cell? ⟨X, 1, none⟩ = some (.pointer (some ⟨N, 0, none⟩))) (x4 : w.cell? ⟨X, 4, none⟩ = some (.int .i64 (s : Int))) (n0 : w.cell? ⟨N, 0, none⟩ = some (.slice A L c)) (ad : Addr) (hA : A = some ad) (hlt2 : (ad.add s).block < w.heap.size) (q2 : (0 : Int) ≤ (s : Int)) (q6 : (s : Int) < (L : Int)) (cw : w.cell? (ad.add s) = some (.int .u64 (U64 x))) (hp : Hid (∀ W, Calls Try.prog 65 #[.int .u64 (U64 x)] W (RetP (.tuple #[.agg #[.int .i64 P, .int .i64 n, .bool false, .int .i64 0], .int .i64 0]) W))) (hsz : a0.tmps.size = 115) (sl0 : a0.tmps.getD 0 undef = .pointer (some ⟨X, 0, none⟩))
    (fin : ∀ (vals : Nat → Value) (w1 : World), Below w.heap.size w w1 → (BoxC 112 (#[.int .i64 P, .int .i64 n, .bool false, .int .i64 0]) w.heap.size) (vals 17) w1 → (IsV (.int .i64 0)) (vals 19) w1 → Q .normal (putO vals [some 28, some 29, some 30, some 31, some 32, some 33, some 34, some 35, some 36, some 37, some 38, some 39, some 40, some 41, some 27, some 42, some 43, some 3, none, some 4] 0 a0) w1) :
    (Code.region 3 (regIn Try.f37 3) true).wp Try.prog Q a0 w := by
  have hGs : ∀ (j : Nat) (v : Value) (w3 : World), (srcOf [(18, 17)] j = j → (([IsV (.pointer (some ⟨X, 0, none⟩)), IsV (.pointer (some ⟨X, 0, none⟩)), IsV (.pointer (some ⟨X, 1, none⟩)), IsV (.pointer (some ⟨N, 0, none⟩)), IsV (.pointer (some ⟨N, 0, none⟩)), IsV (.pointer (some ⟨N, 0, none⟩)), IsV (.slice A L c), IsV (.pointer (some ⟨X, 0, none⟩)), IsV (.pointer (some ⟨X, 0, none⟩)), IsV (.pointer (some ⟨X, 4, none⟩)), IsV (.int .i64 (s : Int)), IsV (.pointer (some (ad.add s))), IsV (.int .u64 (U64 x)), IsV (.tuple #[.agg #[.int .i64 P, .int .i64 n, .bool false, .int .i64 0], .int .i64 0]), IsV (.tuple #[.agg #[.int .i64 P, .int .i64 n, .bool false, .int .i64 0], .int .i64 0]), IsV (.agg #[.int .i64 P, .int .i64 n, .bool false, .int .i64 0]), IsV (.int .i64 0), BoxV 112 4 w.heap.size, BoxC 112 (#[.int .i64 P, .int .i64 n, .bool false, .int .i64 0]) w.heap.size, IsV (.int .i64 0)] : List (Value → World → Prop)).getD j fun _ _ => True) v w3) → (([IsV (.pointer (some ⟨X, 0, none⟩)), IsV (.pointer (some ⟨X, 0, none⟩)), IsV (.pointer (some ⟨X, 1, none⟩)), IsV (.pointer (some ⟨N, 0, none⟩)), IsV (.pointer (some ⟨N, 0, none⟩)), IsV (.pointer (some ⟨N, 0, none⟩)), IsV (.slice A L c), IsV (.pointer (some ⟨X, 0, none⟩)), IsV (.pointer (some ⟨X, 0, none⟩)), IsV (.pointer (some ⟨X, 4, none⟩)), IsV (.int .i64 (s : Int)), IsV (.pointer (some (ad.add s))), IsV (.int .u64 (U64 x)), IsV (.tuple #[.agg #[.int .i64 P, .int .i64 n, .bool false, .int .i64 0], .int .i64 0]), IsV (.tuple #[.agg #[.int .i64 P, .int .i64 n, .bool false, .int .i64 0], .int .i64 0]), IsV (.agg #[.int .i64 P, .int .i64 n, .bool false, .int .i64 0]), IsV (.int .i64 0), BoxV 112 4 w.heap.size, fun _ _ => True, IsV (.int .i64 0)] : List (Value → World → Prop)).getD j fun _ _ => True) v w3 := by
    intro j v w3 h
    match j, h with
    | 0, h => exact h rfl
    | 1, h => exact h rfl
    | 2, h => exact h rfl
    | 3, h => exact h rfl
    | 4, h => exact h rfl
    | 5, h => exact h rfl
    | 6, h => exact h rfl
    | 7, h => exact h rfl
    | 8, h => exact h rfl
    | 9, h => exact h rfl
    | 10, h => exact h rfl
    | 11, h => exact h rfl
    | 12, h => exact h rfl
    | 13, h => exact h rfl
    | 14, h => exact h rfl
    | 15, h => exact h rfl
    | 16, h => exact h rfl
    | 17, h => exact h rfl
    | 18, h => exact trivial
    | 19, h => exact h rfl
    | _ + 20, _ => exact trivial
  refine region_byG [IsV (.pointer (some ⟨X, 0, none⟩)),
    IsV (.pointer (some ⟨X, 0, none⟩)),
    IsV (.pointer (some ⟨X, 1, none⟩)),
    IsV (.pointer (some ⟨N, 0, none⟩)),
    IsV (.pointer (some ⟨N, 0, none⟩)),
    IsV (.pointer (some ⟨N, 0, none⟩)),
    IsV (.slice A L c),
    IsV (.pointer (some ⟨X, 0, none⟩)),
    IsV (.pointer (some ⟨X, 0, none⟩)),
    IsV (.pointer (some ⟨X, 4, none⟩)),
    IsV (.int .i64 (s : Int)),
    IsV (.pointer (some (ad.add s))),
    IsV (.int .u64 (U64 x)),
    IsV (.tuple #[.agg #[.int .i64 P, .int .i64 n, .bool false, .int .i64 0], .int .i64 0]),
    IsV (.tuple #[.agg #[.int .i64 P, .int .i64 n, .bool false, .int .i64 0], .int .i64 0]),
    IsV (.agg #[.int .i64 P, .int .i64 n, .bool false, .int .i64 0]),
    IsV (.int .i64 0),
    BoxV 112 4 w.heap.size,
    BoxC 112 (#[.int .i64 P, .int .i64 n, .bool false, .int .i64 0]) w.heap.size,
    IsV (.int .i64 0)] [(18, StD 112 4 w.heap.size)] [(18, 17)]
    [some 28, some 29, some 30, some 31, some 32, some 33, some 34, some 35, some 36, some 37, some 38, some 39, some 40, some 41, some 27, some 42, some 43, some 3, none, some 4] (by kernel_rfl) (by rw [hsz]; kernel_rfl) (by kernel_rfl) (by kernel_rfl) ?_ ?_ ?_ ?_
  · intro f hf
    simp only [List.mem_cons, List.not_mem_nil, or_false] at hf
    rcases hf with rfl | rfl | rfl | rfl | rfl | rfl | rfl | rfl | rfl | rfl | rfl | rfl | rfl | rfl | rfl | rfl | rfl | rfl | rfl | rfl <;> intro v a b h g <;> first | exact IsV.mono h | exact BoxV.mono h g | exact BoxC.mono h g
  · intro p hp
    simp only [List.mem_cons, List.not_mem_nil, or_false] at hp
    rcases hp with rfl
    · refine ⟨fun a b h1 h2 => StD.below (Nat.le_refl _) h1 h1.size h2, ?_⟩
      intro f hf
      simp only [List.eraseIdx_cons_succ, List.eraseIdx_cons_zero, List.mem_cons, List.not_mem_nil, or_false] at hf
      rcases hf with rfl | rfl | rfl | rfl | rfl | rfl | rfl | rfl | rfl | rfl | rfl | rfl | rfl | rfl | rfl | rfl | rfl | rfl | rfl <;> intro v a b h g <;> first | exact IsV.st h g | exact BoxV.st h g | exact BoxC.st (by decide) h g
  · refine ⟨?_, ?_, ?_, ?_, ?_, ?_, ?_, ?_, ?_, ?_, ?_, ?_, ?_, ?_, ?_, ?_, ?_, ?_, ?_, ?_, trivial⟩
    · refine OwesG.mk2 (D := Gw) (F' := fun j => ([IsV (.pointer (some ⟨X, 0, none⟩)), IsV (.pointer (some ⟨X, 0, none⟩)), IsV (.pointer (some ⟨X, 1, none⟩)), IsV (.pointer (some ⟨N, 0, none⟩)), IsV (.pointer (some ⟨N, 0, none⟩)), IsV (.pointer (some ⟨N, 0, none⟩)), IsV (.slice A L c), IsV (.pointer (some ⟨X, 0, none⟩)), IsV (.pointer (some ⟨X, 0, none⟩)), IsV (.pointer (some ⟨X, 4, none⟩)), IsV (.int .i64 (s : Int)), IsV (.pointer (some (ad.add s))), IsV (.int .u64 (U64 x)), IsV (.tuple #[.agg #[.int .i64 P, .int .i64 n, .bool false, .int .i64 0], .int .i64 0]), IsV (.tuple #[.agg #[.int .i64 P, .int .i64 n, .bool false, .int .i64 0], .int .i64 0]), IsV (.agg #[.int .i64 P, .int .i64 n, .bool false, .int .i64 0]), IsV (.int .i64 0), BoxV 112 4 w.heap.size, fun _ _ => True, IsV (.int .i64 0)] : List (Value → World → Prop)).getD j fun _ _ => True) rfl hGs (fun v w h => h) ?_
      exact owes_mvD gw_self 0 (by kernel_rfl) (by kernel_rfl) (by kernel_rfl) sl0 (fun _ => rfl)
    · refine OwesG.mk2 (D := Gw) (F' := fun j => ([IsV (.pointer (some ⟨X, 0, none⟩)), IsV (.pointer (some ⟨X, 0, none⟩)), IsV (.pointer (some ⟨X, 1, none⟩)), IsV (.pointer (some ⟨N, 0, none⟩)), IsV (.pointer (some ⟨N, 0, none⟩)), IsV (.pointer (some ⟨N, 0, none⟩)), IsV (.slice A L c), IsV (.pointer (some ⟨X, 0, none⟩)), IsV (.pointer (some ⟨X, 0, none⟩)), IsV (.pointer (some ⟨X, 4, none⟩)), IsV (.int .i64 (s : Int)), IsV (.pointer (some (ad.add s))), IsV (.int .u64 (U64 x)), IsV (.tuple #[.agg #[.int .i64 P, .int .i64 n, .bool false, .int .i64 0], .int .i64 0]), IsV (.tuple #[.agg #[.int .i64 P, .int .i64 n, .bool false, .int .i64 0], .int .i64 0]), IsV (.agg #[.int .i64 P, .int .i64 n, .bool false, .int .i64 0]), IsV (.int .i64 0), BoxV 112 4 w.heap.size, fun _ _ => True, IsV (.int .i64 0)] : List (Value → World → Prop)).getD j fun _ _ => True) rfl hGs (fun v w h => h) ?_
      refine owes_vD (Go.Op.nilCheck (Go.Operand.tmp 28)) 0 [0] (by kernel_rfl) (by kernel_rfl) (by kernel_rfl) rfl fun vals w1 ρ hG hF hρ hcst hfun => ?_
      have e28 : ρ (.tmp 28) = .pointer (some ⟨X, 0, none⟩) := ((hρ 28).trans (slotJ [0] (by rw [hsz]; decide) (by kernel_rfl))).trans (hF 0 (by decide))
      clear hρ hF hGs hcst hfun sl0 fin
      exact opv_val (by go_simp <;> rfl) ⟨gw_self _, rfl⟩
    · refine OwesG.mk2 (D := Gw) (F' := fun j => ([IsV (.pointer (some ⟨X, 0, none⟩)), IsV (.pointer (some ⟨X, 0, none⟩)), IsV (.pointer (some ⟨X, 1, none⟩)), IsV (.pointer (some ⟨N, 0, none⟩)), IsV (.pointer (some ⟨N, 0, none⟩)), IsV (.pointer (some ⟨N, 0, none⟩)), IsV (.slice A L c), IsV (.pointer (some ⟨X, 0, none⟩)), IsV (.pointer (some ⟨X, 0, none⟩)), IsV (.pointer (some ⟨X, 4, none⟩)), IsV (.int .i64 (s : Int)), IsV (.pointer (some (ad.add s))), IsV (.int .u64 (U64 x)), IsV (.tuple #[.agg #[.int .i64 P, .int .i64 n, .bool false, .int .i64 0], .int .i64 0]), IsV (.tuple #[.agg #[.int .i64 P, .int .i64 n, .bool false, .int .i64 0], .int .i64 0]), IsV (.agg #[.int .i64 P, .int .i64 n, .bool false, .int .i64 0]), IsV (.int .i64 0), BoxV 112 4 w.heap.size, fun _ _ => True, IsV (.int .i64 0)] : List (Value → World → Prop)).getD j fun _ _ => True) rfl hGs (fun v w h => h) ?_
      refine owes_vD (Go.Op.fieldAddr 49 (Go.Operand.tmp 29) 1) 0 [1] (by kernel_rfl) (by kernel_rfl) (by kernel_rfl) rfl fun vals w1 ρ hG hF hρ hcst hfun => ?_
      have e29 : ρ (.tmp 29) = .pointer (some ⟨X, 0, none⟩) := ((hρ 29).trans (slotJ [1] (by rw [hsz]; decide) (by kernel_rfl))).trans (hF 1 (by decide))
      clear hρ hF hGs hcst hfun sl0 fin
      exact opv_val (by go_simp <;> rfl) ⟨gw_self _, rfl⟩
    · refine OwesG.mk2 (D := Gw) (F' := fun j => ([IsV (.pointer (some ⟨X, 0, none⟩)), IsV (.pointer (some ⟨X, 0, none⟩)), IsV (.pointer (some ⟨X, 1, none⟩)), IsV (.pointer (some ⟨N, 0, none⟩)), IsV (.pointer (some ⟨N, 0, none⟩)), IsV (.pointer (some ⟨N, 0, none⟩)), IsV (.slice A L c), IsV (.pointer (some ⟨X, 0, none⟩)), IsV (.pointer (some ⟨X, 0, none⟩)), IsV (.pointer (some ⟨X, 4, none⟩)), IsV (.int .i64 (s : Int)), IsV (.pointer (some (ad.add s))), IsV (.int .u64 (U64 x)), IsV (.tuple #[.agg #[.int .i64 P, .int .i64 n, .bool false, .int .i64 0], .int .i64 0]), IsV (.tuple #[.agg #[.int .i64 P, .int .i64 n, .bool false, .int .i64 0], .int .i64 0]), IsV (.agg #[.int .i64 P, .int .i64 n, .bool false, .int .i64 0]), IsV (.int .i64 0), BoxV 112 4 w.heap.size, fun _ _ => True, IsV (.int .i64 0)] : List (Value → World → Prop)).getD j fun _ _ => True) rfl hGs (fun v w h => h) ?_
      refine owes_vD (Go.Op.load 28 (Go.Operand.tmp 30)) 28 [2] (by kernel_rfl) (by kernel_rfl) (by kernel_rfl) rfl fun vals w1 ρ hG hF hρ hcst hfun => ?_
      have e30 : ρ (.tmp 30) = .pointer (some ⟨X, 1, none⟩) := ((hρ 30).trans (slotJ [2] (by rw [hsz]; decide) (by kernel_rfl))).trans (hF 2 (by decide))
      have k := (hG.cell (p := ⟨X, 1, none⟩) hX).trans x1
      clear hρ hF hGs hcst hfun sl0 fin
      exact opv_val (by go_simp <;> rfl) ⟨gw_self _, rfl⟩
    · refine OwesG.mk2 (D := Gw) (F' := fun j => ([IsV (.pointer (some ⟨X, 0, none⟩)), IsV (.pointer (some ⟨X, 0, none⟩)), IsV (.pointer (some ⟨X, 1, none⟩)), IsV (.pointer (some ⟨N, 0, none⟩)), IsV (.pointer (some ⟨N, 0, none⟩)), IsV (.pointer (some ⟨N, 0, none⟩)), IsV (.slice A L c), IsV (.pointer (some ⟨X, 0, none⟩)), IsV (.pointer (some ⟨X, 0, none⟩)), IsV (.pointer (some ⟨X, 4, none⟩)), IsV (.int .i64 (s : Int)), IsV (.pointer (some (ad.add s))), IsV (.int .u64 (U64 x)), IsV (.tuple #[.agg #[.int .i64 P, .int .i64 n, .bool false, .int .i64 0], .int .i64 0]), IsV (.tuple #[.agg #[.int .i64 P, .int .i64 n, .bool false, .int .i64 0], .int .i64 0]), IsV (.agg #[.int .i64 P, .int .i64 n, .bool false, .int .i64 0]), IsV (.int .i64 0), BoxV 112 4 w.heap.size, fun _ _ => True, IsV (.int .i64 0)] : List (Value → World → Prop)).getD j fun _ _ => True) rfl hGs (fun v w h => h) ?_
      refine owes_vD (Go.Op.nilCheck (Go.Operand.tmp 31)) 0 [3] (by kernel_rfl) (by kernel_rfl) (by kernel_rfl) rfl fun vals w1 ρ hG hF hρ hcst hfun => ?_
      have e31 : ρ (.tmp 31) = .pointer (some ⟨N, 0, none⟩) := ((hρ 31).trans (slotJ [3] (by rw [hsz]; decide) (by kernel_rfl))).trans (hF 3 (by decide))
      clear hρ hF hGs hcst hfun sl0 fin
      exact opv_val (by go_simp <;> rfl) ⟨gw_self _, rfl⟩
    · refine OwesG.mk2 (D := Gw) (F' := fun j => ([IsV (.pointer (some ⟨X, 0, none⟩)), IsV (.pointer (some ⟨X, 0, none⟩)), IsV (.pointer (some ⟨X, 1, none⟩)), IsV (.pointer (some ⟨N, 0, none⟩)), IsV (.pointer (some ⟨N, 0, none⟩)), IsV (.pointer (some ⟨N, 0, none⟩)), IsV (.slice A L c), IsV (.pointer (some ⟨X, 0, none⟩)), IsV (.pointer (some ⟨X, 0, none⟩)), IsV (.pointer (some ⟨X, 4, none⟩)), IsV (.int .i64 (s : Int)), IsV (.pointer (some (ad.add s))), IsV (.int .u64 (U64 x)), IsV (.tuple #[.agg #[.int .i64 P, .int .i64 n, .bool false, .int .i64 0], .int .i64 0]), IsV (.tuple #[.agg #[.int .i64 P, .int .i64 n, .bool false, .int .i64 0], .int .i64 0]), IsV (.agg #[.int .i64 P, .int .i64 n, .bool false, .int .i64 0]), IsV (.int .i64 0), BoxV 112 4 w.heap.size, fun _ _ => True, IsV (.int .i64 0)] : List (Value → World → Prop)).getD j fun _ _ => True) rfl hGs (fun v w h => h) ?_
      refine owes_vD (Go.Op.fieldAddr 30 (Go.Operand.tmp 32) 0) 0 [4] (by kernel_rfl) (by kernel_rfl) (by kernel_rfl) rfl fun vals w1 ρ hG hF hρ hcst hfun => ?_
      have e32 : ρ (.tmp 32) = .pointer (some ⟨N, 0, none⟩) := ((hρ 32).trans (slotJ [4] (by rw [hsz]; decide) (by kernel_rfl))).trans (hF 4 (by decide))
      clear hρ hF hGs hcst hfun sl0 fin
      exact opv_val (by go_simp <;> rfl) ⟨gw_self _, rfl⟩
    · refine OwesG.mk2 (D := Gw) (F' := fun j => ([IsV (.pointer (some ⟨X, 0, none⟩)), IsV (.pointer (some ⟨X, 0, none⟩)), IsV (.pointer (some ⟨X, 1, none⟩)), IsV (.pointer (some ⟨N, 0, none⟩)), IsV (.pointer (some ⟨N, 0, none⟩)), IsV (.pointer (some ⟨N, 0, none⟩)), IsV (.slice A L c), IsV (.pointer (some ⟨X, 0, none⟩)), IsV (.pointer (some ⟨X, 0, none⟩)), IsV (.pointer (some ⟨X, 4, none⟩)), IsV (.int .i64 (s : Int)), IsV (.pointer (some (ad.add s))), IsV (.int .u64 (U64 x)), IsV (.tuple #[.agg #[.int .i64 P, .int .i64 n, .bool false, .int .i64 0], .int .i64 0]), IsV (.tuple #[.agg #[.int .i64 P, .int .i64 n, .bool false, .int .i64 0], .int .i64 0]), IsV (.agg #[.int .i64 P, .int .i64 n, .bool false, .int .i64 0]), IsV (.int .i64 0), BoxV 112 4 w.heap.size, fun _ _ => True, IsV (.int .i64 0)] : List (Value → World → Prop)).getD j fun _ _ => True) rfl hGs (fun v w h => h) ?_
      refine owes_vD (Go.Op.load 22 (Go.Operand.tmp 33)) 22 [5] (by kernel_rfl) (by kernel_rfl) (by kernel_rfl) rfl fun vals w1 ρ hG hF hρ hcst hfun => ?_
      have e33 : ρ (.tmp 33) = .pointer (some ⟨N, 0, none⟩) := ((hρ 33).trans (slotJ [5] (by rw [hsz]; decide) (by kernel_rfl))).trans (hF 5 (by decide))
      have k := (hG.cell (p := ⟨N, 0, none⟩) hN).trans n0
      clear hρ hF hGs hcst hfun sl0 fin
      exact opv_val (by go_simp <;> rfl) ⟨gw_self _, rfl⟩
    · refine OwesG.mk2 (D := Gw) (F' := fun j => ([IsV (.pointer (some ⟨X, 0, none⟩)), IsV (.pointer (some ⟨X, 0, none⟩)), IsV (.pointer (some ⟨X, 1, none⟩)), IsV (.pointer (some ⟨N, 0, none⟩)), IsV (.pointer (some ⟨N, 0, none⟩)), IsV (.pointer (some ⟨N, 0, none⟩)), IsV (.slice A L c), IsV (.pointer (some ⟨X, 0, none⟩)), IsV (.pointer (some ⟨X, 0, none⟩)), IsV (.pointer (some ⟨X, 4, none⟩)), IsV (.int .i64 (s : Int)), IsV (.pointer (some (ad.add s))), IsV (.int .u64 (U64 x)), IsV (.tuple #[.agg #[.int .i64 P, .int .i64 n, .bool false, .int .i64 0], .int .i64 0]), IsV (.tuple #[.agg #[.int .i64 P, .int .i64 n, .bool false, .int .i64 0], .int .i64 0]), IsV (.agg #[.int .i64 P, .int .i64 n, .bool false, .int .i64 0]), IsV (.int .i64 0), BoxV 112 4 w.heap.size, fun _ _ => True, IsV (.int .i64 0)] : List (Value → World → Prop)).getD j fun _ _ => True) rfl hGs (fun v w h => h) ?_
      exact owes_mvD gw_self 0 (by kernel_rfl) (by kernel_rfl) (by kernel_rfl) sl0 (fun _ => rfl)
    · refine OwesG.mk2 (D := Gw) (F' := fun j => ([IsV (.pointer (some ⟨X, 0, none⟩)), IsV (.pointer (some ⟨X, 0, none⟩)), IsV (.pointer (some ⟨X, 1, none⟩)), IsV (.pointer (some ⟨N, 0, none⟩)), IsV (.pointer (some ⟨N, 0, none⟩)), IsV (.pointer (some ⟨N, 0, none⟩)), IsV (.slice A L c), IsV (.pointer (some ⟨X, 0, none⟩)), IsV (.pointer (some ⟨X, 0, none⟩)), IsV (.pointer (some ⟨X, 4, none⟩)), IsV (.int .i64 (s : Int)), IsV (.pointer (some (ad.add s))), IsV (.int .u64 (U64 x)), IsV (.tuple #[.agg #[.int .i64 P, .int .i64 n, .bool false, .int .i64 0], .int .i64 0]), IsV (.tuple #[.agg #[.int .i64 P, .int .i64 n, .bool false, .int .i64 0], .int .i64 0]), IsV (.agg #[.int .i64 P, .int .i64 n, .bool false, .int .i64 0]), IsV (.int .i64 0), BoxV 112 4 w.heap.size, fun _ _ => True, IsV (.int .i64 0)] : List (Value → World → Prop)).getD j fun _ _ => True) rfl hGs (fun v w h => h) ?_
      refine owes_vD (Go.Op.nilCheck (Go.Operand.tmp 35)) 0 [7] (by kernel_rfl) (by kernel_rfl) (by kernel_rfl) rfl fun vals w1 ρ hG hF hρ hcst hfun => ?_
      have e35 : ρ (.tmp 35) = .pointer (some ⟨X, 0, none⟩) := ((hρ 35).trans (slotJ [7] (by rw [hsz]; decide) (by kernel_rfl))).trans (hF 7 (by decide))
      clear hρ hF hGs hcst hfun sl0 fin
      exact opv_val (by go_simp <;> rfl) ⟨gw_self _, rfl⟩
    · refine OwesG.mk2 (D := Gw) (F' := fun j => ([IsV (.pointer (some ⟨X, 0, none⟩)), IsV (.pointer (some ⟨X, 0, none⟩)), IsV (.pointer (some ⟨X, 1, none⟩)), IsV (.pointer (some ⟨N, 0, none⟩)), IsV (.pointer (some ⟨N, 0, none⟩)), IsV (.pointer (some ⟨N, 0, none⟩)), IsV (.slice A L c), IsV (.pointer (some ⟨X, 0, none⟩)), IsV (.pointer (some ⟨X, 0, none⟩)), IsV (.pointer (some ⟨X, 4, none⟩)), IsV (.int .i64 (s : Int)), IsV (.pointer (some (ad.add s))), IsV (.int .u64 (U64 x)), IsV (.tuple #[.agg #[.int .i64 P, .int .i64 n, .bool false, .int .i64 0], .int .i64 0]), IsV (.tuple #[.agg #[.int .i64 P, .int .i64 n, .bool false, .int .i64 0], .int .i64 0]), IsV (.agg #[.int .i64 P, .int .i64 n, .bool false, .int .i64 0]), IsV (.int .i64 0), BoxV 112 4 w.heap.size, fun _ _ => True, IsV (.int .i64 0)] : List (Value → World → Prop)).getD j fun _ _ => True) rfl hGs (fun v w h => h) ?_
      refine owes_vD (Go.Op.fieldAddr 49 (Go.Operand.tmp 36) 4) 0 [8] (by kernel_rfl) (by kernel_rfl) (by kernel_rfl) rfl fun vals w1 ρ hG hF hρ hcst hfun => ?_
      have e36 : ρ (.tmp 36) = .pointer (some ⟨X, 0, none⟩) := ((hρ 36).trans (slotJ [8] (by rw [hsz]; decide) (by kernel_rfl))).trans (hF 8 (by decide))
      clear hρ hF hGs hcst hfun sl0 fin
      exact opv_val (by go_simp <;> rfl) ⟨gw_self _, rfl⟩
    · refine OwesG.mk2 (D := Gw) (F' := fun j => ([IsV (.pointer (some ⟨X, 0, none⟩)), IsV (.pointer (some ⟨X, 0, none⟩)), IsV (.pointer (some ⟨X, 1, none⟩)), IsV (.pointer (some ⟨N, 0, none⟩)), IsV (.pointer (some ⟨N, 0, none⟩)), IsV (.pointer (some ⟨N, 0, none⟩)), IsV (.slice A L c), IsV (.pointer (some ⟨X, 0, none⟩)), IsV (.pointer (some ⟨X, 0, none⟩)), IsV (.pointer (some ⟨X, 4, none⟩)), IsV (.int .i64 (s : Int)), IsV (.pointer (some (ad.add s))), IsV (.int .u64 (U64 x)), IsV (.tuple #[.agg #[.int .i64 P, .int .i64 n, .bool false, .int .i64 0], .int .i64 0]), IsV (.tuple #[.agg #[.int .i64 P, .int .i64 n, .bool false, .int .i64 0], .int .i64 0]), IsV (.agg #[.int .i64 P, .int .i64 n, .bool false, .int .i64 0]), IsV (.int .i64 0), BoxV 112 4 w.heap.size, fun _ _ => True, IsV (.int .i64 0)] : List (Value → World → Prop)).getD j fun _ _ => True) rfl hGs (fun v w h => h) ?_
      refine owes_vD (Go.Op.load 3 (Go.Operand.tmp 37)) 3 [9] (by kernel_rfl) (by kernel_rfl) (by kernel_rfl) rfl fun vals w1 ρ hG hF hρ hcst hfun => ?_
      have e37 : ρ (.tmp 37) = .pointer (some ⟨X, 4, none⟩) := ((hρ 37).trans (slotJ [9] (by rw [hsz]; decide) (by kernel_rfl))).trans (hF 9 (by decide))
      have k := (hG.cell (p := ⟨X, 4, none⟩) hX).trans x4
      clear hρ hF hGs hcst hfun sl0 fin
      exact opv_val (by go_simp <;> rfl) ⟨gw_self _, rfl⟩
    · refine OwesG.mk2 (D := Gw) (F' := fun j => ([IsV (.pointer (some ⟨X, 0, none⟩)), IsV (.pointer (some ⟨X, 0, none⟩)), IsV (.pointer (some ⟨X, 1, none⟩)), IsV (.pointer (some ⟨N, 0, none⟩)), IsV (.pointer (some ⟨N, 0, none⟩)), IsV (.pointer (some ⟨N, 0, none⟩)), IsV (.slice A L c), IsV (.pointer (some ⟨X, 0, none⟩)), IsV (.pointer (some ⟨X, 0, none⟩)), IsV (.pointer (some ⟨X, 4, none⟩)), IsV (.int .i64 (s : Int)), IsV (.pointer (some (ad.add s))), IsV (.int .u64 (U64 x)), IsV (.tuple #[.agg #[.int .i64 P, .int .i64 n, .bool false, .int .i64 0], .int .i64 0]), IsV (.tuple #[.agg #[.int .i64 P, .int .i64 n, .bool false, .int .i64 0], .int .i64 0]), IsV (.agg #[.int .i64 P, .int .i64 n, .bool false, .int .i64 0]), IsV (.int .i64 0), BoxV 112 4 w.heap.size, fun _ _ => True, IsV (.int .i64 0)] : List (Value → World → Prop)).getD j fun _ _ => True) rfl hGs (fun v w h => h) ?_
      refine owes_vD (Go.Op.indexAddr 22 (Go.Operand.tmp 34) (Go.Operand.tmp 38)) 0 [6, 10] (by kernel_rfl) (by kernel_rfl) (by kernel_rfl) rfl fun vals w1 ρ hG hF hρ hcst hfun => ?_
      have e34 : ρ (.tmp 34) = .slice A L c := ((hρ 34).trans (slotJ [6, 10] (by rw [hsz]; decide) (by kernel_rfl))).trans (hF 6 (by decide))
      have e38 : ρ (.tmp 38) = .int .i64 (s : Int) := ((hρ 38).trans (slotJ [6, 10] (by rw [hsz]; decide) (by kernel_rfl))).trans (hF 10 (by decide))
      subst hA
      clear hρ hF hGs hcst hfun sl0 fin
      exact opv_val (by go_simp <;> rfl) ⟨gw_self _, rfl⟩
    · refine OwesG.mk2 (D := Gw) (F' := fun j => ([IsV (.pointer (some ⟨X, 0, none⟩)), IsV (.pointer (some ⟨X, 0, none⟩)), IsV (.pointer (some ⟨X, 1, none⟩)), IsV (.pointer (some ⟨N, 0, none⟩)), IsV (.pointer (some ⟨N, 0, none⟩)), IsV (.pointer (some ⟨N, 0, none⟩)), IsV (.slice A L c), IsV (.pointer (some ⟨X, 0, none⟩)), IsV (.pointer (some ⟨X, 0, none⟩)), IsV (.pointer (some ⟨X, 4, none⟩)), IsV (.int .i64 (s : Int)), IsV (.pointer (some (ad.add s))), IsV (.int .u64 (U64 x)), IsV (.tuple #[.agg #[.int .i64 P, .int .i64 n, .bool false, .int .i64 0], .int .i64 0]), IsV (.tuple #[.agg #[.int .i64 P, .int .i64 n, .bool false, .int .i64 0], .int .i64 0]), IsV (.agg #[.int .i64 P, .int .i64 n, .bool false, .int .i64 0]), IsV (.int .i64 0), BoxV 112 4 w.heap.size, fun _ _ => True, IsV (.int .i64 0)] : List (Value → World → Prop)).getD j fun _ _ => True) rfl hGs (fun v w h => h) ?_
      refine owes_vD (Go.Op.load 62 (Go.Operand.tmp 39)) 62 [11] (by kernel_rfl) (by kernel_rfl) (by kernel_rfl) rfl fun vals w1 ρ hG hF hρ hcst hfun => ?_
      have e39 : ρ (.tmp 39) = .pointer (some (ad.add s)) := ((hρ 39).trans (slotJ [11] (by rw [hsz]; decide) (by kernel_rfl))).trans (hF 11 (by decide))
      have k := (hG.cell (p := ad.add s) hlt2).trans cw
      clear hρ hF hGs hcst hfun sl0 fin
      exact opv_val (by go_simp <;> rfl) ⟨gw_self _, rfl⟩
    · refine OwesG.mk2 (D := Gw) (F' := fun j => ([IsV (.pointer (some ⟨X, 0, none⟩)), IsV (.pointer (some ⟨X, 0, none⟩)), IsV (.pointer (some ⟨X, 1, none⟩)), IsV (.pointer (some ⟨N, 0, none⟩)), IsV (.pointer (some ⟨N, 0, none⟩)), IsV (.pointer (some ⟨N, 0, none⟩)), IsV (.slice A L c), IsV (.pointer (some ⟨X, 0, none⟩)), IsV (.pointer (some ⟨X, 0, none⟩)), IsV (.pointer (some ⟨X, 4, none⟩)), IsV (.int .i64 (s : Int)), IsV (.pointer (some (ad.add s))), IsV (.int .u64 (U64 x)), IsV (.tuple #[.agg #[.int .i64 P, .int .i64 n, .bool false, .int .i64 0], .int .i64 0]), IsV (.tuple #[.agg #[.int .i64 P, .int .i64 n, .bool false, .int .i64 0], .int .i64 0]), IsV (.agg #[.int .i64 P, .int .i64 n, .bool false, .int .i64 0]), IsV (.int .i64 0), BoxV 112 4 w.heap.size, fun _ _ => True, IsV (.int .i64 0)] : List (Value → World → Prop)).getD j fun _ _ => True) rfl hGs (fun v w h => h) ?_
      refine owes_vD (Go.Op.call { callee := Go.Callee.value (Go.Operand.func 65), args := #[Go.Operand.tmp 40], argTypes := #[62] }) 113 [12] (by kernel_rfl) (by kernel_rfl) (by kernel_rfl) rfl fun vals w1 ρ hG hF hρ hcst hfun => ?_
      have e40 : ρ (.tmp 40) = .int .u64 (U64 x) := ((hρ 40).trans (slotJ [12] (by rw [hsz]; decide) (by kernel_rfl))).trans (hF 12 (by decide))
      clear hρ hF hGs hcst sl0 fin
      exact opv_enter (by go_simp <;> rfl) (of_ret (hp.out w1))
    · refine OwesG.mk2 (D := Gw) (F' := fun j => ([IsV (.pointer (some ⟨X, 0, none⟩)), IsV (.pointer (some ⟨X, 0, none⟩)), IsV (.pointer (some ⟨X, 1, none⟩)), IsV (.pointer (some ⟨N, 0, none⟩)), IsV (.pointer (some ⟨N, 0, none⟩)), IsV (.pointer (some ⟨N, 0, none⟩)), IsV (.slice A L c), IsV (.pointer (some ⟨X, 0, none⟩)), IsV (.pointer (some ⟨X, 0, none⟩)), IsV (.pointer (some ⟨X, 4, none⟩)), IsV (.int .i64 (s : Int)), IsV (.pointer (some (ad.add s))), IsV (.int .u64 (U64 x)), IsV (.tuple #[.agg #[.int .i64 P, .int .i64 n, .bool false, .int .i64 0], .int .i64 0]), IsV (.tuple #[.agg #[.int .i64 P, .int .i64 n, .bool false, .int .i64 0], .int .i64 0]), IsV (.agg #[.int .i64 P, .int .i64 n, .bool false, .int .i64 0]), IsV (.int .i64 0), BoxV 112 4 w.heap.size, fun _ _ => True, IsV (.int .i64 0)] : List (Value → World → Prop)).getD j fun _ _ => True) rfl hGs (fun v w h => h) ?_
      exact owes_mvjD gw_self 13 41 (by kernel_rfl) (by kernel_rfl) (by kernel_rfl) (by kernel_rfl) (by rw [hsz]; decide) (fun v w h => h)
    · refine OwesG.mk2 (D := Gw) (F' := fun j => ([IsV (.pointer (some ⟨X, 0, none⟩)), IsV (.pointer (some ⟨X, 0, none⟩)), IsV (.pointer (some ⟨X, 1, none⟩)), IsV (.pointer (some ⟨N, 0, none⟩)), IsV (.pointer (some ⟨N, 0, none⟩)), IsV (.pointer (some ⟨N, 0, none⟩)), IsV (.slice A L c), IsV (.pointer (some ⟨X, 0, none⟩)), IsV (.pointer (some ⟨X, 0, none⟩)), IsV (.pointer (some ⟨X, 4, none⟩)), IsV (.int .i64 (s : Int)), IsV (.pointer (some (ad.add s))), IsV (.int .u64 (U64 x)), IsV (.tuple #[.agg #[.int .i64 P, .int .i64 n, .bool false, .int .i64 0], .int .i64 0]), IsV (.tuple #[.agg #[.int .i64 P, .int .i64 n, .bool false, .int .i64 0], .int .i64 0]), IsV (.agg #[.int .i64 P, .int .i64 n, .bool false, .int .i64 0]), IsV (.int .i64 0), BoxV 112 4 w.heap.size, fun _ _ => True, IsV (.int .i64 0)] : List (Value → World → Prop)).getD j fun _ _ => True) rfl hGs (fun v w h => h) ?_
      refine owes_vD (Go.Op.extract (Go.Operand.tmp 27) 0) 112 [14] (by kernel_rfl) (by kernel_rfl) (by kernel_rfl) rfl fun vals w1 ρ hG hF hρ hcst hfun => ?_
      have e27 : ρ (.tmp 27) = .tuple #[.agg #[.int .i64 P, .int .i64 n, .bool false, .int .i64 0], .int .i64 0] := ((hρ 27).trans (slotJ [14] (by rw [hsz]; decide) (by kernel_rfl))).trans (hF 14 (by decide))
      clear hρ hF hGs hcst hfun sl0 fin
      exact opv_val (by go_simp <;> rfl) ⟨gw_self _, rfl⟩
    · refine OwesG.mk2 (D := Gw) (F' := fun j => ([IsV (.pointer (some ⟨X, 0, none⟩)), IsV (.pointer (some ⟨X, 0, none⟩)), IsV (.pointer (some ⟨X, 1, none⟩)), IsV (.pointer (some ⟨N, 0, none⟩)), IsV (.pointer (some ⟨N, 0, none⟩)), IsV (.pointer (some ⟨N, 0, none⟩)), IsV (.slice A L c), IsV (.pointer (some ⟨X, 0, none⟩)), IsV (.pointer (some ⟨X, 0, none⟩)), IsV (.pointer (some ⟨X, 4, none⟩)), IsV (.int .i64 (s : Int)), IsV (.pointer (some (ad.add s))), IsV (.int .u64 (U64 x)), IsV (.tuple #[.agg #[.int .i64 P, .int .i64 n, .bool false, .int .i64 0], .int .i64 0]), IsV (.tuple #[.agg #[.int .i64 P, .int .i64 n, .bool false, .int .i64 0], .int .i64 0]), IsV (.agg #[.int .i64 P, .int .i64 n, .bool false, .int .i64 0]), IsV (.int .i64 0), BoxV 112 4 w.heap.size, fun _ _ => True, IsV (.int .i64 0)] : List (Value → World → Prop)).getD j fun _ _ => True) rfl hGs (fun v w h => h) ?_
      refine owes_vD (Go.Op.extract (Go.Operand.tmp 27) 1) 3 [14] (by kernel_rfl) (by kernel_rfl) (by kernel_rfl) rfl fun vals w1 ρ hG hF hρ hcst hfun => ?_
      have e27 : ρ (.tmp 27) = .tuple #[.agg #[.int .i64 P, .int .i64 n, .bool false, .int .i64 0], .int .i64 0] := ((hρ 27).trans (slotJ [14] (by rw [hsz]; decide) (by kernel_rfl))).trans (hF 14 (by decide))
      clear hρ hF hGs hcst hfun sl0 fin
      exact opv_val (by go_simp <;> rfl) ⟨gw_self _, rfl⟩
    · refine OwesG.mk2 (D := Gw) (F' := fun j => ([IsV (.pointer (some ⟨X, 0, none⟩)), IsV (.pointer (some ⟨X, 0, none⟩)), IsV (.pointer (some ⟨X, 1, none⟩)), IsV (.pointer (some ⟨N, 0, none⟩)), IsV (.pointer (some ⟨N, 0, none⟩)), IsV (.pointer (some ⟨N, 0, none⟩)), IsV (.slice A L c), IsV (.pointer (some ⟨X, 0, none⟩)), IsV (.pointer (some ⟨X, 0, none⟩)), IsV (.pointer (some ⟨X, 4, none⟩)), IsV (.int .i64 (s : Int)), IsV (.pointer (some (ad.add s))), IsV (.int .u64 (U64 x)), IsV (.tuple #[.agg #[.int .i64 P, .int .i64 n, .bool false, .int .i64 0], .int .i64 0]), IsV (.tuple #[.agg #[.int .i64 P, .int .i64 n, .bool false, .int .i64 0], .int .i64 0]), IsV (.agg #[.int .i64 P, .int .i64 n, .bool false, .int .i64 0]), IsV (.int .i64 0), BoxV 112 4 w.heap.size, fun _ _ => True, IsV (.int .i64 0)] : List (Value → World → Prop)).getD j fun _ _ => True) rfl hGs (fun v w h => h) ?_
      refine owes_vD (Go.Op.alloc 112) 0 [] (by kernel_rfl) (by kernel_rfl) (by kernel_rfl) rfl fun vals w1 ρ hG hF hρ hcst hfun => ?_
      clear hρ hF hGs hcst hfun sl0 fin
      exact opv_val (by go_simp <;> rfl) ⟨Gw.alloc _ _, ⟨_, _, rfl, hG.size, rfl, Bk.new _ _ _⟩⟩
    · exact owes_box (type := 0) (tp := 3) (tv := 42) (jp := 17) (jv := 15) (cs := #[.int .i64 P, .int .i64 n, .bool false, .int .i64 0]) (by kernel_rfl) (by kernel_rfl) (by kernel_rfl) (by kernel_rfl) (by kernel_rfl) (by kernel_rfl) (by rw [hsz]; decide) (by rw [hsz]; decide) (by decide) rfl rfl rfl (by kernel_rfl) rfl (by simp [Value.oneCell']) (fun _ _ h => h) (fun _ _ h => h) (fun _ _ h => h)
    · refine OwesG.mk2 (D := Gw) (F' := fun j => ([IsV (.pointer (some ⟨X, 0, none⟩)), IsV (.pointer (some ⟨X, 0, none⟩)), IsV (.pointer (some ⟨X, 1, none⟩)), IsV (.pointer (some ⟨N, 0, none⟩)), IsV (.pointer (some ⟨N, 0, none⟩)), IsV (.pointer (some ⟨N, 0, none⟩)), IsV (.slice A L c), IsV (.pointer (some ⟨X, 0, none⟩)), IsV (.pointer (some ⟨X, 0, none⟩)), IsV (.pointer (some ⟨X, 4, none⟩)), IsV (.int .i64 (s : Int)), IsV (.pointer (some (ad.add s))), IsV (.int .u64 (U64 x)), IsV (.tuple #[.agg #[.int .i64 P, .int .i64 n, .bool false, .int .i64 0], .int .i64 0]), IsV (.tuple #[.agg #[.int .i64 P, .int .i64 n, .bool false, .int .i64 0], .int .i64 0]), IsV (.agg #[.int .i64 P, .int .i64 n, .bool false, .int .i64 0]), IsV (.int .i64 0), BoxV 112 4 w.heap.size, fun _ _ => True, IsV (.int .i64 0)] : List (Value → World → Prop)).getD j fun _ _ => True) rfl hGs (fun v w h => h) ?_
      exact owes_mvjD gw_self 16 43 (by kernel_rfl) (by kernel_rfl) (by kernel_rfl) (by kernel_rfl) (by rw [hsz]; decide) (fun v w h => h)
  · intro vals w1 hG hF
    exact fin vals w1 hG (hF 18 (by decide +kernel)) (hF 19 (by decide +kernel))
theorem on7 (Q : Exit → Act → World → Prop) (a0 : Act) (w : World) (X N s i q : Nat) (A : Option Addr) (L c : Nat) (x : Int) (hX : X < w.heap.size) (hN : N < w.heap.size) (x1 : w.cell? ⟨X, 1, none⟩ = some (.pointer (some ⟨N, 0, none⟩))) (x4 : w.cell? ⟨X, 4, none⟩ = some (.int .i64 (s : Int))) (n0 : w.cell? ⟨N, 0, none⟩ = some (.slice A L c)) (ad : Addr) (hA : A = some ad) (hlt2 : (ad.add q).block < w.heap.size) (q2 : (0 : Int) ≤ (q : Int)) (q6 : (q : Int) < (L : Int)) (q3 : (s : Int) ≤ 100000) (q4 : (0 : Int) ≤ (s : Int)) (q5 : (i : Int) ≤ 100000) (q8 : (0 : Int) ≤ (i : Int)) (q7 : (s : Int) + 1 + (i : Int) = (q : Int)) (cw : w.cell? (ad.add q) = some (.int .u64 x)) (hsz : a0.tmps.size = 115) (sl0 : a0.tmps.getD 0 undef = .pointer (some ⟨X, 0, none⟩)) (sl5 : a0.tmps.getD 5 undef = .int .i64 (i : Int))
    (fin : ∀ (vals : Nat → Value) (w1 : World), Below w.heap.size w w1 → (IsV (.int .u64 x)) (vals 16) w1 → Q .normal (putD vals [50, 51, 52, 53, 54, 55, 56, 57, 58, 59, 60, 61, 62, 63, 64, 65, 6] 0 a0) w1) :
    (Code.region 7 (regIn Try.f37 7) true).wp Try.prog Q a0 w := by
  refine region_by (G := fun w w1 => Below w.heap.size w w1) [IsV (.pointer (some ⟨X, 0, none⟩)),
    IsV (.pointer (some ⟨X, 0, none⟩)),
    IsV (.pointer (some ⟨X, 1, none⟩)),
    IsV (.pointer (some ⟨N, 0, none⟩)),
    IsV (.pointer (some ⟨N, 0, none⟩)),
    IsV (.pointer (some ⟨N, 0, none⟩)),
    IsV (.slice A L c),
    IsV (.pointer (some ⟨X, 0, none⟩)),
    IsV (.pointer (some ⟨X, 0, none⟩)),
    IsV (.pointer (some ⟨X, 4, none⟩)),
    IsV (.int .i64 (s : Int)),
    IsV (.int .i64 ((s : Int) + 1)),
    IsV (.int .i64 (i : Int)),
    IsV (.int .i64 (q : Int)),
    IsV (.pointer (some (ad.add q))),
    IsV (.int .u64 x),
    IsV (.int .u64 x)]
    [50, 51, 52, 53, 54, 55, 56, 57, 58, 59, 60, 61, 62, 63, 64, 65, 6] (by kernel_rfl) (Gw.drew _) Gw.trans (by rw [hsz]; kernel_rfl) (by kernel_rfl) ?_ ?_ ?_
  · intro f hf
    simp only [List.mem_cons, List.not_mem_nil, or_false] at hf
    rcases hf with rfl | rfl | rfl | rfl | rfl | rfl | rfl | rfl | rfl | rfl | rfl | rfl | rfl | rfl | rfl | rfl | rfl <;> intro v a b h g <;> first | exact IsV.mono h
  · refine ⟨?_, ?_, ?_, ?_, ?_, ?_, ?_, ?_, ?_, ?_, ?_, ?_, ?_, ?_, ?_, ?_, ?_, trivial⟩
    · exact owes_mv 0 (by kernel_rfl) (by kernel_rfl) (by kernel_rfl) sl0 (fun _ => rfl)
    · refine owes_v (Go.Op.nilCheck (Go.Operand.tmp 50)) 0 [0] (by kernel_rfl) (by kernel_rfl) (by kernel_rfl) rfl fun vals w1 ρ hG hF hρ hcst hfun => ?_
      have e50 : ρ (.tmp 50) = .pointer (some ⟨X, 0, none⟩) := ((hρ 50).trans (slotJ [0] (by rw [hsz]; decide) (by kernel_rfl))).trans (hF 0 (by decide))
      clear hρ hF hcst hfun sl0 sl5 fin
      exact opv_val (by go_simp <;> rfl) ⟨gw_self _, rfl⟩
    · refine owes_v (Go.Op.fieldAddr 49 (Go.Operand.tmp 51) 1) 0 [1] (by kernel_rfl) (by kernel_rfl) (by kernel_rfl) rfl fun vals w1 ρ hG hF hρ hcst hfun => ?_
      have e51 : ρ (.tmp 51) = .pointer (some ⟨X, 0, none⟩) := ((hρ 51).trans (slotJ [1] (by rw [hsz]; decide) (by kernel_rfl))).trans (hF 1 (by decide))
      clear hρ hF hcst hfun sl0 sl5 fin
      exact opv_val (by go_simp <;> rfl) ⟨gw_self _, rfl⟩
    · refine owes_v (Go.Op.load 28 (Go.Operand.tmp 52)) 28 [2] (by kernel_rfl) (by kernel_rfl) (by kernel_rfl) rfl fun vals w1 ρ hG hF hρ hcst hfun => ?_
      have e52 : ρ (.tmp 52) = .pointer (some ⟨X, 1, none⟩) := ((hρ 52).trans (slotJ [2] (by rw [hsz]; decide) (by kernel_rfl))).trans (hF 2 (by decide))
      have k := (hG.cell (p := ⟨X, 1, none⟩) hX).trans x1
      clear hρ hF hcst hfun sl0 sl5 fin
      exact opv_val (by go_simp <;> rfl) ⟨gw_self _, rfl⟩
    · refine owes_v (Go.Op.nilCheck (Go.Operand.tmp 53)) 0 [3] (by kernel_rfl) (by kernel_rfl) (by kernel_rfl) rfl fun vals w1 ρ hG hF hρ hcst hfun => ?_
      have e53 : ρ (.tmp 53) = .pointer (some ⟨N, 0, none⟩) := ((hρ 53).trans (slotJ [3] (by rw [hsz]; decide) (by kernel_rfl))).trans (hF 3 (by decide))
      clear hρ hF hcst hfun sl0 sl5 fin
      exact opv_val (by go_simp <;> rfl) ⟨gw_self _, rfl⟩
    · refine owes_v (Go.Op.fieldAddr 30 (Go.Operand.tmp 54) 0) 0 [4] (by kernel_rfl) (by kernel_rfl) (by kernel_rfl) rfl fun vals w1 ρ hG hF hρ hcst hfun => ?_
      have e54 : ρ (.tmp 54) = .pointer (some ⟨N, 0, none⟩) := ((hρ 54).trans (slotJ [4] (by rw [hsz]; decide) (by kernel_rfl))).trans (hF 4 (by decide))
      clear hρ hF hcst hfun sl0 sl5 fin
      exact opv_val (by go_simp <;> rfl) ⟨gw_self _, rfl⟩
    · refine owes_v (Go.Op.load 22 (Go.Operand.tmp 55)) 22 [5] (by kernel_rfl) (by kernel_rfl) (by kernel_rfl) rfl fun vals w1 ρ hG hF hρ hcst hfun => ?_
      have e55 : ρ (.tmp 55) = .pointer (some ⟨N, 0, none⟩) := ((hρ 55).trans (slotJ [5] (by rw [hsz]; decide) (by kernel_rfl))).trans (hF 5 (by decide))
      have k := (hG.cell (p := ⟨N, 0, none⟩) hN).trans n0
      clear hρ hF hcst hfun sl0 sl5 fin
      exact opv_val (by go_simp <;> rfl) ⟨gw_self _, rfl⟩
    · exact owes_mv 0 (by kernel_rfl) (by kernel_rfl) (by kernel_rfl) sl0 (fun _ => rfl)
    · refine owes_v (Go.Op.nilCheck (Go.Operand.tmp 57)) 0 [7] (by kernel_rfl) (by kernel_rfl) (by kernel_rfl) rfl fun vals w1 ρ hG hF hρ hcst hfun => ?_
      have e57 : ρ (.tmp 57) = .pointer (some ⟨X, 0, none⟩) := ((hρ 57).trans (slotJ [7] (by rw [hsz]; decide) (by kernel_rfl))).trans (hF 7 (by decide))
      clear hρ hF hcst hfun sl0 sl5 fin
      exact opv_val (by go_simp <;> rfl) ⟨gw_self _, rfl⟩
    · refine owes_v (Go.Op.fieldAddr 49 (Go.Operand.tmp 58) 4) 0 [8] (by kernel_rfl) (by kernel_rfl) (by kernel_rfl) rfl fun vals w1 ρ hG hF hρ hcst hfun => ?_
      have e58 : ρ (.tmp 58) = .pointer (some ⟨X, 0, none⟩) := ((hρ 58).trans (slotJ [8] (by rw [hsz]; decide) (by kernel_rfl))).trans (hF 8 (by decide))
      clear hρ hF hcst hfun sl0 sl5 fin
      exact opv_val (by go_simp <;> rfl) ⟨gw_self _, rfl⟩
    · refine owes_v (Go.Op.load 3 (Go.Operand.tmp 59)) 3 [9] (by kernel_rfl) (by kernel_rfl) (by kernel_rfl) rfl fun vals w1 ρ hG hF hρ hcst hfun => ?_
      have e59 : ρ (.tmp 59) = .pointer (some ⟨X, 4, none⟩) := ((hρ 59).trans (slotJ [9] (by rw [hsz]; decide) (by kernel_rfl))).trans (hF 9 (by decide))
      have k := (hG.cell (p := ⟨X, 4, none⟩) hX).trans x4
      clear hρ hF hcst hfun sl0 sl5 fin
      exact opv_val (by go_simp <;> rfl) ⟨gw_self _, rfl⟩
    · refine owes_v (Go.Op.binOp Go.BinOp.add 3 (Go.Operand.tmp 60) (Go.Operand.const (Go.Value.int Go.IntKind.i64 1)) 3) 3 [10] (by kernel_rfl) (by kernel_rfl) (by kernel_rfl) rfl fun vals w1 ρ hG hF hρ hcst hfun => ?_
      have e60 : ρ (.tmp 60) = .int .i64 (s : Int) := ((hρ 60).trans (slotJ [10] (by rw [hsz]; decide) (by kernel_rfl))).trans (hF 10 (by decide))
      have kw0 : IntKind.i64.wrap (((s : Int) + 1)) = ((s : Int) + 1) := wrapIn (by omega) (by omega)
      clear hρ hF hfun sl0 sl5 fin
      exact opv_val (by go_simp <;> rfl) ⟨gw_self _, rfl⟩
    · exact owes_mv 5 (by kernel_rfl) (by kernel_rfl) (by kernel_rfl) sl5 (fun _ => rfl)
    · refine owes_v (Go.Op.binOp Go.BinOp.add 3 (Go.Operand.tmp 61) (Go.Operand.tmp 62) 3) 3 [11, 12] (by kernel_rfl) (by kernel_rfl) (by kernel_rfl) rfl fun vals w1 ρ hG hF hρ hcst hfun => ?_
      have e61 : ρ (.tmp 61) = .int .i64 ((s : Int) + 1) := ((hρ 61).trans (slotJ [11, 12] (by rw [hsz]; decide) (by kernel_rfl))).trans (hF 11 (by decide))
      have e62 : ρ (.tmp 62) = .int .i64 (i : Int) := ((hρ 62).trans (slotJ [11, 12] (by rw [hsz]; decide) (by kernel_rfl))).trans (hF 12 (by decide))
      have kw0 : IntKind.i64.wrap (((q : Int))) = ((q : Int)) := wrapIn (by omega) (by omega)
      clear hρ hF hcst hfun sl0 sl5 fin
      exact opv_val (by go_simp <;> rfl) ⟨gw_self _, rfl⟩
    · refine owes_v (Go.Op.indexAddr 22 (Go.Operand.tmp 56) (Go.Operand.tmp 63)) 0 [6, 13] (by kernel_rfl) (by kernel_rfl) (by kernel_rfl) rfl fun vals w1 ρ hG hF hρ hcst hfun => ?_
      have e56 : ρ (.tmp 56) = .slice A L c := ((hρ 56).trans (slotJ [6, 13] (by rw [hsz]; decide) (by kernel_rfl))).trans (hF 6 (by decide))
      have e63 : ρ (.tmp 63) = .int .i64 (q : Int) := ((hρ 63).trans (slotJ [6, 13] (by rw [hsz]; decide) (by kernel_rfl))).trans (hF 13 (by decide))
      subst hA
      clear hρ hF hcst hfun sl0 sl5 fin
      exact opv_val (by go_simp <;> rfl) ⟨gw_self _, rfl⟩
    · refine owes_v (Go.Op.load 62 (Go.Operand.tmp 64)) 62 [14] (by kernel_rfl) (by kernel_rfl) (by kernel_rfl) rfl fun vals w1 ρ hG hF hρ hcst hfun => ?_
      have e64 : ρ (.tmp 64) = .pointer (some (ad.add q)) := ((hρ 64).trans (slotJ [14] (by rw [hsz]; decide) (by kernel_rfl))).trans (hF 14 (by decide))
      have k := (hG.cell (p := ad.add q) hlt2).trans cw
      clear hρ hF hcst hfun sl0 sl5 fin
      exact opv_val (by go_simp <;> rfl) ⟨gw_self _, rfl⟩
    · exact owes_mvj 15 65 (by kernel_rfl) (by kernel_rfl) (by kernel_rfl) (by kernel_rfl) (by rw [hsz]; decide) (fun v w h => h)
  · intro vals w1 hG hF
    exact fin vals w1 hG (hF 16 (by decide +kernel))
theorem on15 (Q : Exit → Act → World → Prop) (a0 : Act) (w : World) (X H : Nat) (s sz z : Nat) (P n : Int) (hX : X < w.heap.size) (hH : H < w.heap.size) (x4 : w.cell? ⟨X, 4, none⟩ = some (.int .i64 (s : Int))) (g0 : w.cell? ⟨H, 0, none⟩ = some (.int .i64 P)) (g1 : w.cell? ⟨H, 1, none⟩ = some (.int .i64 n)) (g2 : w.cell? ⟨H, 2, none⟩ = some (.bool false)) (g3 : w.cell? ⟨H, 3, none⟩ = some (.int .i64 0)) (q1 : (z : Int) ≤ 100000) (q2 : (0 : Int) ≤ (z : Int)) (q3 : (s : Int) + (sz : Int) = (z : Int)) (hp : Hid (∀ W, Calls Try.prog 71 #[.agg #[.int .i64 P, .int .i64 n, .bool false, .int .i64 0]] W (RetP (.int .i64 (sz : Int)) W))) (hsz : a0.tmps.size = 115) (sl0 : a0.tmps.getD 0 undef = .pointer (some ⟨X, 0, none⟩)) (sl3 : a0.tmps.getD 3 undef = .pointer (some ⟨H, 0, none⟩))
    (fin : ∀ (vals : Nat → Value) (w1 : World), Below w.heap.size w w1 → (IsV (.int .i64 (z : Int))) (vals 7) w1 → (IsV (.pointer (some ⟨X, 4, none⟩))) (vals 9) w1 → wpList Try.prog #[{ dst := none, op := Go.Op.store 3 (Go.Operand.tmp 114) (Go.Operand.tmp 112), type := 0, pos := "", after := #[], guard := none }] Q [{ dst := none, op := Go.Op.store 3 (Go.Operand.tmp 114) (Go.Operand.tmp 112), type := 0, pos := "", after := #[], guard := none }] (putD vals [105, 106, 107, 108, 109, 110, 111, 112, 113, 114] 0 a0) w1) :
    (Code.region 15 (regIn Try.f37 15) true).wp Try.prog Q a0 w := by
  refine region_by_tail (m := 10) (G := fun w w1 => Below w.heap.size w w1) [IsV (.pointer (some ⟨X, 0, none⟩)),
    IsV (.pointer (some ⟨X, 0, none⟩)),
    IsV (.pointer (some ⟨X, 0, none⟩)),
    IsV (.pointer (some ⟨X, 4, none⟩)),
    IsV (.int .i64 (s : Int)),
    IsV (.agg #[.int .i64 P, .int .i64 n, .bool false, .int .i64 0]),
    IsV (.int .i64 (sz : Int)),
    IsV (.int .i64 (z : Int)),
    IsV (.pointer (some ⟨X, 0, none⟩)),
    IsV (.pointer (some ⟨X, 4, none⟩))]
    [105, 106, 107, 108, 109, 110, 111, 112, 113, 114] (by kernel_rfl) (Gw.drew _) Gw.trans (by rw [hsz]; kernel_rfl) (by kernel_rfl) ?_ ?_ ?_
  · intro f hf
    simp only [List.mem_cons, List.not_mem_nil, or_false] at hf
    rcases hf with rfl | rfl | rfl | rfl | rfl | rfl | rfl | rfl | rfl | rfl <;> intro v a b h g <;> first | exact IsV.mono h
  · refine ⟨?_, ?_, ?_, ?_, ?_, ?_, ?_, ?_, ?_, ?_, trivial⟩
    · exact owes_mv 0 (by kernel_rfl) (by kernel_rfl) (by kernel_rfl) sl0 (fun _ => rfl)
    · exact owes_mv 0 (by kernel_rfl) (by kernel_rfl) (by kernel_rfl) sl0 (fun _ => rfl)
    · refine owes_v (Go.Op.nilCheck (Go.Operand.tmp 106)) 0 [1] (by kernel_rfl) (by kernel_rfl) (by kernel_rfl) rfl fun vals w1 ρ hG hF hρ hcst hfun => ?_
      have e106 : ρ (.tmp 106) = .pointer (some ⟨X, 0, none⟩) := ((hρ 106).trans (slotJ [1] (by rw [hsz]; decide) (by kernel_rfl))).trans (hF 1 (by decide))
      clear hρ hF hcst hfun sl0 sl3 fin
      exact opv_val (by go_simp <;> rfl) ⟨gw_self _, rfl⟩
    · refine owes_v (Go.Op.fieldAddr 49 (Go.Operand.tmp 107) 4) 0 [2] (by kernel_rfl) (by kernel_rfl) (by kernel_rfl) rfl fun vals w1 ρ hG hF hρ hcst hfun => ?_
      have e107 : ρ (.tmp 107) = .pointer (some ⟨X, 0, none⟩) := ((hρ 107).trans (slotJ [2] (by rw [hsz]; decide) (by kernel_rfl))).trans (hF 2 (by decide))
      clear hρ hF hcst hfun sl0 sl3 fin
      exact opv_val (by go_simp <;> rfl) ⟨gw_self _, rfl⟩
    · refine owes_v (Go.Op.load 3 (Go.Operand.tmp 108)) 3 [3] (by kernel_rfl) (by kernel_rfl) (by kernel_rfl) rfl fun vals w1 ρ hG hF hρ hcst hfun => ?_
      have e108 : ρ (.tmp 108) = .pointer (some ⟨X, 4, none⟩) := ((hρ 108).trans (slotJ [3] (by rw [hsz]; decide) (by kernel_rfl))).trans (hF 3 (by decide))
      have k := (hG.cell (p := ⟨X, 4, none⟩) hX).trans x4
      clear hρ hF hcst hfun sl0 sl3 fin
      exact opv_val (by go_simp <;> rfl) ⟨gw_self _, rfl⟩
    · refine owes_v (Go.Op.load 112 (Go.Operand.tmp 3)) 112 [] (by kernel_rfl) (by kernel_rfl) (by kernel_rfl) rfl fun vals w1 ρ hG hF hρ hcst hfun => ?_
      have e3 : ρ (.tmp 3) = .pointer (some ⟨H, 0, none⟩) := ((hρ 3).trans (slotO [] (by kernel_rfl))).trans sl3
      have k0 := (hG.cell (p := ⟨H, 0, none⟩) hH).trans g0; have k1 := (hG.cell (p := ⟨H, 1, none⟩) hH).trans g1; have k2 := (hG.cell (p := ⟨H, 2, none⟩) hH).trans g2; have k3 := (hG.cell (p := ⟨H, 3, none⟩) hH).trans g3
      clear hρ hF hcst hfun sl0 sl3 fin
      exact opv_val (by go_simp <;> rfl) ⟨gw_self _, rfl⟩
    · refine owes_v (Go.Op.call { callee := Go.Callee.value (Go.Operand.func 71), args := #[Go.Operand.tmp 110], argTypes := #[112] }) 3 [5] (by kernel_rfl) (by kernel_rfl) (by kernel_rfl) rfl fun vals w1 ρ hG hF hρ hcst hfun => ?_
      have e110 : ρ (.tmp 110) = .agg #[.int .i64 P, .int .i64 n, .bool false, .int .i64 0] := ((hρ 110).trans (slotJ [5] (by rw [hsz]; decide) (by kernel_rfl))).trans (hF 5 (by decide))
      clear hρ hF hcst sl0 sl3 fin
      exact opv_enter (by go_simp <;> rfl) (of_ret (hp.out w1))
    · refine owes_v (Go.Op.binOp Go.BinOp.add 3 (Go.Operand.tmp 109) (Go.Operand.tmp 111) 3) 3 [4, 6] (by kernel_rfl) (by kernel_rfl) (by kernel_rfl) rfl fun vals w1 ρ hG hF hρ hcst hfun => ?_
      have e109 : ρ (.tmp 109) = .int .i64 (s : Int) := ((hρ 109).trans (slotJ [4, 6] (by rw [hsz]; decide) (by kernel_rfl))).trans (hF 4 (by decide))
      have e111 : ρ (.tmp 111) = .int .i64 (sz : Int) := ((hρ 111).trans (slotJ [4, 6] (by rw [hsz]; decide) (by kernel_rfl))).trans (hF 6 (by decide))
      have kw0 : IntKind.i64.wrap ((z : Int)) = (z : Int) := wrapIn (by omega) (by omega)
      clear hρ hF hcst hfun sl0 sl3 fin
      exact opv_val (by go_simp <;> rfl) ⟨gw_self _, rfl⟩
    · refine owes_v (Go.Op.nilCheck (Go.Operand.tmp 105)) 0 [0] (by kernel_rfl) (by kernel_rfl) (by kernel_rfl) rfl fun vals w1 ρ hG hF hρ hcst hfun => ?_
      have e105 : ρ (.tmp 105) = .pointer (some ⟨X, 0, none⟩) := ((hρ 105).trans (slotJ [0] (by rw [hsz]; decide) (by kernel_rfl))).trans (hF 0 (by decide))
      clear hρ hF hcst hfun sl0 sl3 fin
      exact opv_val (by go_simp <;> rfl) ⟨gw_self _, rfl⟩
    · refine owes_v (Go.Op.fieldAddr 49 (Go.Operand.tmp 113) 4) 0 [8] (by kernel_rfl) (by kernel_rfl) (by kernel_rfl) rfl fun vals w1 ρ hG hF hρ hcst hfun => ?_
      have e113 : ρ (.tmp 113) = .pointer (some ⟨X, 0, none⟩) := ((hρ 113).trans (slotJ [8] (by rw [hsz]; decide) (by kernel_rfl))).trans (hF 8 (by decide))
      clear hρ hF hcst hfun sl0 sl3 fin
      exact opv_val (by go_simp <;> rfl) ⟨gw_self _, rfl⟩
  · intro vals w1 hG hF
    exact last_list (by kernel_rfl) (by kernel_rfl) (by kernel_rfl) (fin vals w1 hG (hF 7 (by decide +kernel)) (hF 9 (by decide +kernel)))
end Go.Proofs.Ytbanbpphadgoiaa
/- The reference's One besides scanC. Conditions: right objects. -/
namespace Go.Proofs.Ytbanbpphadgoiaa
set_option linter.unusedVariables false
set_option linter.unusedSimpArgs false
open Go.RowKit Go.Maps
set_option maxHeartbeats 2000000
set_option maxRecDepth 100000
section
variable {Fo : Nat → Prop} {B X R N : Nat} {rA : Option Addr} {rc : Nat} {ws : List (BitVec 64)} {b t e : Nat} {l : List Nat} {m : Nat} {c : Cy} {scan : Nat} {full : Bool}
/-- What a read of the copier tells. -/
theorem RS.cells {W : World} (h : RS Fo W B X R N rA rc ws b t e l m c scan full) : ∃ A nc, X < W.heap.size ∧ N < W.heap.size ∧ W.cell? ⟨X, 1, none⟩ = some (.pointer (some ⟨N, 0, none⟩)) ∧ W.cell? ⟨X, 4, none⟩ = some (.int .i64 (scan : Int)) ∧ W.cell? ⟨X, 5, none⟩ = some (.bool full) ∧ W.cell? ⟨N, 0, none⟩ = some (.slice A m nc) ∧ W.cell? ⟨N, 2, none⟩ = some (.int .i64 (c.top : Int)) ∧ Rd u64v W W.heap.size A c.T := by
  obtain ⟨nA, nc, fv, tv, us, h1, h2, h3, h4, h5⟩ := h
  have hn := h1.nw
  rw [h4] at hn
  exact ⟨nA, nc, h1.blk.lt, h1.nw.lt, h1.blk.cell 1, h1.blk.cell 4, h1.blk.cell 5, hn.cell 0, hn.cell 2, h1.row.rd⟩
theorem RS.free {W : World} (h : RS Fo W B X R N rA rc ws b t e l m c scan full) (j : Nat) : W.frozen? ⟨X, j, none⟩ = false ∧ W.frozen? ⟨N, j, none⟩ = false ∧ X ≠ N ∧ InvC l ws b t c ∧ c.T.length = m := by
  obtain ⟨nA, nc, fv, tv, us, h1, h2, h3, h4, h5⟩ := h
  exact ⟨h1.blk.free j, h1.nw.free j, h1.XN.1, h3, h4⟩
/-- The next object's place is written. -/
theorem RS.scanned {W : World} (h : RS Fo W B X R N rA rc ws b t e l m c scan full) (s : Nat) : RS Fo (W.setCell ⟨X, 4, none⟩ (.int .i64 (s : Int))) B X R N rA rc ws b t e l m c s full ∧ Below B W (W.setCell ⟨X, 4, none⟩ (.int .i64 (s : Int))) ∧ Kept (fun k => ¬ Fo k) W (W.setCell ⟨X, 4, none⟩ (.int .i64 (s : Int))) := by
  obtain ⟨nA, nc, fv, tv, us, h1, h2, h3, h4, h5⟩ := h
  have K := Kept.set W X 4 (.int .i64 (s : Int))
  obtain ⟨n1, n2, n3⟩ := h1.XN
  have hb : Below B W (W.setCell ⟨X, 4, none⟩ (.int .i64 (s : Int))) := K.below h1.lts.2.2.2.2.2 (fun k hk => by omega)
  obtain ⟨a1, a2, a3⟩ := h1.ap X (.inl rfl)
  exact ⟨⟨nA, nc, fv, tv, us, ⟨h1.src.belowB hb K.size h1.RB h1.rB, h1.RB, h1.rB, h1.blk.set 4 (.int .i64 (s : Int)), K.bk h1.nw (fun e => n1 e.symm), K.ow h1.row (fun k hk e => a1 (e ▸ hk)), K.ow h1.fr (fun k hk e => a2 (e ▸ hk)), K.ow h1.to_ (fun k hk e => a3 (e ▸ hk)), h1.XN, h1.ap, h1.ap2, h1.ap3⟩, h2, h3, h4, fun k hk => ⟨Nat.lt_of_lt_of_le (h5 k hk).1 K.size, (h5 k hk).2⟩⟩, hb, K.more (fun k hk hf => (h5 k hf).2 (.inl hk))⟩
/-- A pointer is written into a new row of words. -/
theorem RS.laid {w0 w : World} (h : RS Fo w0 B X R N rA rc ws b t e l m c scan full) (hb : Below w0.heap.size w0 w) (i p : Nat) {q qc : Nat} (ho : Ow u64v 62 w w0.heap.size (.slice (some ⟨q, 0, none⟩) m qc) (setC c i p).T) :
    RS Fo (w.setCell ⟨N, 0, none⟩ (.slice (some ⟨q, 0, none⟩) m qc)) B X R N rA rc ws b t e l m (setC c i p) scan full ∧ Below B w0 (w.setCell ⟨N, 0, none⟩ (.slice (some ⟨q, 0, none⟩) m qc)) ∧ Kept (fun k => ¬ Fo k) w0 (w.setCell ⟨N, 0, none⟩ (.slice (some ⟨q, 0, none⟩) m qc)) := by
  obtain ⟨nA, nc, fv, tv, us, h1, h2, h3, h4, h5⟩ := h
  have hl : (setC c i p).T.length = c.T.length := by unfold setC; exact List.length_set
  have hm : (setC c i p).T.length = m := hl.trans h4
  have ho' : Ow u64v 62 w w0.heap.size (.slice (some ⟨q, 0, none⟩) (setC c i p).T.length qc) (setC c i p).T := by rw [hm]; exact ho
  have hq := (ho'.lt q rfl).1
  obtain ⟨r1, r2⟩ := h1.lay hb ho' hl
  rw [hm] at r1 r2
  have hsz : w0.heap.size ≤ (w.setCell ⟨N, 0, none⟩ (.slice (some ⟨q, 0, none⟩) m qc)).heap.size := r2.size
  refine ⟨⟨_, qc, fv, tv, us, r1, h2.setC i p, ⟨(setC_ok h3.1 h3.2.1 i p).1, (setC_ok h3.1 h3.2.1 i p).2, h3.2.2.1, h3.2.2.2.1, h3.2.2.2.2⟩, hm, fun k hk => ⟨Nat.lt_of_lt_of_le (h5 k hk).1 hsz, fun e => ?_⟩⟩, r2, ?_⟩
  · have := (h5 k hk).1
    rcases e with e | e | e | e | e
    · exact (h5 k hk).2 (.inl e)
    · exact (h5 k hk).2 (.inr (.inl e))
    · exact (h5 k hk).2 (.inr (.inr (.inl e)))
    · exact (h5 k hk).2 (.inr (.inr (.inr (.inl e))))
    · have e : q = k := by injection e
      omega
  · refine ((Kept.of_below hb _).trans ((Kept.set w N 0 _).more (S' := fun k => ¬ Fo k) (fun k hk hf => (h5 k hf).2 (.inr (.inl hk)))))
end
end Go.Proofs.Ytbanbpphadgoiaa
/- The reference's One is scanC. Conditions: right objects. -/
namespace Go.Proofs.Ytbanbpphadgoiaa
set_option linter.unusedVariables false
set_option linter.unusedSimpArgs false
open Go.RowKit Go.Maps
set_option maxHeartbeats 4000000
set_option maxRecDepth 100000
theorem set_same {T : List (BitVec 64)} {j : Nat} (h : (T.getD j 0#64).toNat = 0) : T.set j (BitVec.ofNat 64 0) = T := by
  have hz : T.getD j 0#64 = 0#64 := BitVec.eq_of_toNat_eq h
  apply List.ext_getElem (by simp)
  intro i h1 h2
  rw [List.getElem_set]
  by_cases e : j = i
  · subst e
    rw [if_pos rfl]
    rw [List.getD_eq_getElem?_getD, List.getElem?_eq_getElem h2] at hz
    exact hz.symm
  · rw [if_neg e]
section
variable {Fo : Nat → Prop} {B X R N : Nat} {rA : Option Addr} {rc : Nat} {ws : List (BitVec 64)} {b t e : Nat} {l : List Nat} {m : Nat} {c : Cy} {s : Nat} {full : Bool}
theorem rone_end (w : World) (h : RS Fo w B X R N rA rc ws b t e l m c s full) (hf : full = true ∨ c.top ≤ s) : Calls Try.prog 37 #[.pointer (some ⟨X, 0, none⟩)] w (RetP (.bool false) w) := by
  obtain ⟨A, nc, hX, hN, x1, x4, x5, n0, n2, _⟩ := h.cells
  obtain ⟨tp, htp⟩ : ∃ tp, tp = c.top := ⟨_, rfl⟩
  rw [← htp] at n2 hf
  clear h htp
  go_enter Try.func37, Try.ntmps37
  go_wp2_with fail
  by_cases hlt : s < tp
  · have hft : full = true := by rcases hf with h | h; exact h; omega
    subst hft
    refine on1f _ _ _ X N (s : Int) (tp : Int) true hX hN x1 x4 x5 n2 (by omega) rfl rfl ?_
    intro vals2 w3 hG h26
    unfold IsV at h26
    simp only [putD, Act.put, List.setIfInBounds_toArray, List.set_cons_zero, List.set_cons_succ, h26]
    have H3 := Lib.hid hG
    clear hG h26
    go_wp2_with fail
    go_ret
    exact ⟨rfl, H3.out⟩
  · refine on1t _ _ _ X N (s : Int) (tp : Int) hX hN x1 x4 n2 (by omega) rfl rfl ?_
    intro vals2 w3 hG h26
    unfold IsV at h26
    simp only [putD, Act.put, List.setIfInBounds_toArray, List.set_cons_zero, List.set_cons_succ, h26]
    have H3 := Lib.hid hG
    clear hG h26
    go_wp2_with fail
    go_ret
    exact ⟨rfl, H3.out⟩
def OneR (Fo : Nat → Prop) (w : World) (B X R N : Nat) (rA : Option Addr) (rc : Nat) (ws : List (BitVec 64)) (b t e : Nat) (l : List Nat) (m : Nat) (s nx : Nat) (x : Option Cy) (r : Ending) (w' : World) : Prop := match x with
  | some d => r = .returned (.bool true) ∧ RS Fo w' B X R N rA rc ws b t e l m d nx false ∧ Below B w w' ∧ Kept (fun k => ¬ Fo k) w w'
  | none => r = .returned (.bool false) ∧ (∃ d, RS Fo w' B X R N rA rc ws b t e l m d s true) ∧ Below B w w' ∧ Kept (fun k => ¬ Fo k) w w'
theorem rone_c (w : World) (HH : Heap ws l b t) (h : RS Fo w B X R N rA rc ws b t e l m c s false) (hm : m ≤ 8192) (hs : s < c.top) (hg : goodX (c.T.getD s 0#64) (c.top - s) = true) (hp : PtL l c s (P0 (c.T.getD s 0#64)) 0) (hF : ∀ k, Fo k → k < w.heap.size) (nx : Nat) (hnx : nx = s + szX (c.T.getD s 0#64)) :
    Calls Try.prog 37 #[.pointer (some ⟨X, 0, none⟩)] w (OneR Fo w B X R N rA rc ws b t e l m s nx (scanC s (P0 (c.T.getD s 0#64)) 0 c)) := by
  obtain ⟨A, nc, hX, hN, x1, x4, x5, n0, n2, hrd⟩ := h.cells
  obtain ⟨Q, hQ⟩ : ∃ Q, Q = scanC s (P0 (c.T.getD s 0#64)) 0 c := ⟨_, rfl⟩
  rw [← hQ]
  obtain ⟨x, hx⟩ : ∃ x, x = c.T.getD s 0#64 := ⟨_, rfl⟩
  rw [← hx] at hg hp hQ hnx
  obtain ⟨hv, _, _, hsx, hsz, hroom⟩ := head_of hg
  have HUn := Lib.hid (fun W => runpack_false x (goodX_out hg).2.1 W)
  rw [hv] at HUn
  have hI : InvC l ws b t c ∧ c.T.length = m := by obtain ⟨_, _, _, _, _, _, _, h3, h4, _⟩ := h; exact ⟨h3, h4⟩
  have hL := hI.1.2.1
  have hsl : s < c.T.length := by have := hL.2.2; omega
  obtain ⟨ad, rfl, hlt, hcw⟩ := hrd s hsl
  have hcx : w.cell? (ad.add s) = some (.int .u64 (U64 x)) := by
    rw [hcw, hx, List.getD_eq_getElem?_getD, List.getElem?_eq_getElem hsl]; rfl
  have hlt : (ad.add s).block < w.heap.size := by rw [add_block]; exact hlt
  obtain ⟨P, hP⟩ : ∃ P, P = P0 x := ⟨_, rfl⟩
  obtain ⟨n, hn⟩ : ∃ P, P = B0 x := ⟨_, rfl⟩
  obtain ⟨sz, hsz2⟩ : ∃ P, P = szX x := ⟨_, rfl⟩
  rw [← hP, ← hn] at HUn hsz hsx
  rw [← hP] at hp hQ
  rw [← hsz2] at hsz hnx hsx hroom
  have HSz := Lib.hid (fun W => rsize_c (P : Int) (n : Int) false 0 W)
  rw [hsz] at HSz
  obtain ⟨tp, htp⟩ : ∃ tp, tp = c.top := ⟨_, rfl⟩
  rw [← htp] at n2 hs hroom
  have htm : tp ≤ m := by rw [htp]; have := hL.2.2; omega
  have HC := Lib.hid h
  have HHi := Lib.hid HH
  have HQ := Lib.hid (show scanC s (P - 0) 0 c = Q from hQ.symm)
  have HPt := Lib.hid hp
  have HF := Lib.hid hF
  have Hx := Lib.hid (And.intro htp (And.intro hnx hsx))
  have q2 : (0 : Int) ≤ (s : Int) := by omega
  have q6 : (s : Int) < (m : Int) := by omega
  have hBw := Lib.hid h.B_le
  have a1 : sz ≤ tp - s := hroom
  have a2 : tp ≤ m := htm
  have a3 : sz = 1 + P + (n + 7) / 8 := hsx
  clear hQ hx hv hrd hcw hI hL hP hn hsz2 hsz htp h HH hp hF hg hsl hnx hsx hroom htm
  go_enter Try.func37, Try.ntmps37
  go_wp2_with fail
  refine on1f _ _ _ X N (s : Int) (tp : Int) false hX hN x1 x4 x5 n2 (by omega) rfl rfl ?_
  intro vals2 w2 hG h26
  unfold IsV at h26
  simp only [putD, Act.put, List.setIfInBounds_toArray, List.set_cons_zero, List.set_cons_succ, h26]
  have H2 := Lib.hid hG
  have x1 := (hG.cell (p := ⟨X, 1, none⟩) hX).trans x1
  have x4 := (hG.cell (p := ⟨X, 4, none⟩) hX).trans x4
  have n0 := (hG.cell (p := ⟨N, 0, none⟩) hN).trans n0
  have hcx := (hG.cell (p := ad.add s) hlt).trans hcx
  have hX2 := Nat.lt_of_lt_of_le hX hG.size
  have hN2 := Nat.lt_of_lt_of_le hN hG.size
  have hl2 := Nat.lt_of_lt_of_le hlt hG.size
  clear hG h26 x5 n2 hX hN hlt
  go_wp2_with fail
  refine on3 _ _ _ X N s (some ad) m nc x (P : Int) (n : Int) hX2 hN2 x1 x4 n0 ad rfl hl2 q2 q6 hcx HUn rfl rfl ?_
  intro vals3 w3 hG hbx h4
  obtain ⟨H, ek, hkB, hbk⟩ := hbx
  unfold IsV at h4
  simp only [putO, Act.put, List.setIfInBounds_toArray, List.set_cons_zero, List.set_cons_succ, ek, h4]
  have H3 := Lib.hid (show Below w.heap.size w w3 from H2.out.trans (hG.mono H2.out.size))
  have hkw : w.heap.size ≤ H := Nat.le_trans H2.out.size hkB
  have hS3 : RS (fun k => Fo k ∨ k = H) w3 B X R N rA rc ws b t e l m c s false := HC.out.widen H3.out (fun k hk => hk.imp id (fun e => ⟨by omega, by have := hbk.lt; omega⟩))
  have HS3 := Lib.hid (show ∃ d, RS (fun k => Fo k ∨ k = H) w3 B X R N rA rc ws b t e l m d s false ∧ PtL l d s P 0 ∧ c.top ≤ d.top ∧ Below B w w3 ∧ Kept (fun k => ¬ Fo k) w w3 ∧ Bk w3 H 112 #[.int .i64 (P : Int), .int .i64 (n : Int), .bool false, .int .i64 0] ∧ scanC s (P - 0) 0 d = Q from
    ⟨c, hS3, HPt.out, Nat.le_refl _, H3.out.mono hBw.out.1, Kept.of_below H3.out _, hbk, HQ.out⟩)
  clear hG hbk h4 ek x1 x4 n0 hcx hX2 hN2 hl2 hS3 H2 hkB
  go_wp2_with fail
  go_loopw [5] (fun v W => ∃ i : Nat, v = .int .i64 i ∧ i ≤ P ∧ Hid (∃ d, RS (fun k => Fo k ∨ k = H) W B X R N rA rc ws b t e l m d s false ∧ PtL l d s P i ∧ c.top ≤ d.top ∧ Below B w W ∧ Kept (fun k => ¬ Fo k) w W ∧ Bk W H 112 #[.int .i64 (P : Int), .int .i64 (n : Int), .bool false, .int .i64 0] ∧ scanC s (P - i) i d = Q)) (fun v _ => P - (Go.RowKit.intOf v).toNat)
  case atStart => exact ⟨0, rfl, Nat.zero_le _, HS3⟩
  case round =>
    obtain ⟨i, rfl, hi, hS⟩ := hrel
    clear HS3
    obtain ⟨d, e1, e2, e3, e4, e5, e6, e7⟩ := hS.out
    obtain ⟨g0, g1, g2, g3⟩ := e6.four
    have hHl := e6.lt
    obtain ⟨A, nc, hX, hN, x1, x4, x5, n0, n2, hrd⟩ := e1.cells
    have p0 : (0 : Int) ≤ (i : Int) := by omega
    by_cases hlt : i < P
    · have p1 : (i : Int) < (P : Int) := by omega
      obtain ⟨_, _, hXN, hI, hdm⟩ := e1.free 0
      have hL := hI.2.1
      obtain ⟨q, hq⟩ : ∃ q, q = s + 1 + i := ⟨_, rfl⟩
      have hdt : s + 1 + P ≤ d.top := by have := Hx.out.1; omega
      have hql : q < d.T.length := by have := hL.2.2; omega
      obtain ⟨ad2, rfl, hlt2, hcw⟩ := hrd q hql
      obtain ⟨k, hk⟩ : ∃ k : Nat, k = (d.T.getD q 0#64).toNat := ⟨_, rfl⟩
      have hck : wr.cell? (ad2.add q) = some (.int .u64 (k : Int)) := by
        rw [hcw, hk, List.getD_eq_getElem?_getD, List.getElem?_eq_getElem hql]; rfl
      have hlt2 : (ad2.add q).block < wr.heap.size := by rw [add_block]; exact hlt2
      have hkp := e2 i (Nat.le_refl _) hlt
      rw [← hq, ← hk] at hkp
      have hk8 : k ≤ 8192 := by
        rcases hkp with h | ⟨h1, h2⟩
        · omega
        · have := (HHi.out.good _ h2).2.1; have := HHi.out.tl; have := HHi.out.wl; omega
      have e7' : (match takeP d k with | none => none | some (p, z) => scanC s (P - (i + 1)) (i + 1) (setC z q p)) = Q := by
        rw [← e7, show P - i = (P - (i + 1)) + 1 from by omega]
        show _ = (match takeP d (d.T.getD (s + 1 + i) 0#64).toNat with | none => none | some (p, z) => scanC s (P - (i + 1)) (i + 1) (setC z (s + 1 + i) p))
        rw [← hq, ← hk]
      have q5 : (0 : Int) ≤ (q : Int) := by omega
      have q7 : (q : Int) < (m : Int) := by omega
      have q8 : (s : Int) + 1 + (i : Int) = (q : Int) := by omega
      have HD := Lib.hid (And.intro e2 (And.intro e3 (And.intro e4 (And.intro e5 (And.intro e6 (And.intro hdt (And.intro hdm (And.intro hq (And.intro hk hql)))))))))
      have HD1 := Lib.hid e1
      have HE7 := Lib.hid e7'
      have HK := Lib.hid hkp
      clear e1 e2 e3 e4 e5 e6 e7 e7' hrd n2 hcw hI hL hdt hdm hq hk hql hkp g1 g2 g3 x5 hS
      go_wp2_with fail
      refine on7 _ _ _ X N s i q (some ad2) m nc (k : Int) hX hN x1 x4 n0 ad2 rfl hlt2 q5 q7 (by omega) (by omega) (by omega) (by omega) q8 hck rfl rfl rfl ?_
      intro vals4 w4 hG h6
      unfold IsV at h6
      simp only [putD, Act.put, List.setIfInBounds_toArray, List.set_cons_zero, List.set_cons_succ, h6]
      have H4 := Lib.hid hG
      have g0' := (hG.cell (p := ⟨H, 0, none⟩) hHl).trans g0
      clear hG h6 x1 x4 n0 hck g0
      by_cases hk0 : k = 0
      · subst hk0
        have hset : setC d q 0 = d := by
          unfold setC
          rw [set_same HD.out.2.2.2.2.2.2.2.2.1.symm]
        have HN := Lib.hid (show ∃ d, RS (fun k => Fo k ∨ k = H) w4 B X R N rA rc ws b t e l m d s false ∧ PtL l d s P (i + 1) ∧ c.top ≤ d.top ∧ Below B w w4 ∧ Kept (fun k => ¬ Fo k) w w4 ∧ Bk w4 H 112 #[.int .i64 (P : Int), .int .i64 (n : Int), .bool false, .int .i64 0] ∧ scanC s (P - (i + 1)) (i + 1) d = Q from
          ⟨d, HD1.out.below H4.out, fun k h1 h2 => HD.out.1 k (by omega) h2, HD.out.2.1, HD.out.2.2.1.trans (H4.out.mono (HD1.out.B_le.1)), HD.out.2.2.2.1.trans (Kept.of_below H4.out _), HD.out.2.2.2.2.1.below H4.out HD.out.2.2.2.2.1.lt, by
            have h := HE7.out
            rw [show takeP d 0 = some (0, d) from rfl] at h
            simp only at h
            rw [hset] at h
            exact h⟩)
        clear hset
        go_wp2_with fail
        go_roundw
        case rel => first | exact ⟨i + 1, by go_num, by omega, HN⟩ | ((repeat apply Exists.intro); refine ⟨?_, rfl⟩; exact ⟨i + 1, by go_num, by omega, HN⟩)
        case measure => simp [Go.RowKit.intOf]; omega
      · have hk1 : (1 : Int) ≤ (k : Int) := by omega
        have hk2 : ¬ (k : Int) = 0 := by omega
        have HMv := Lib.hid (rmove_c w4 HHi.out (HD1.out.below H4.out) k HK.out)
        have hk82 : (k : Int) ≤ 8192 := by omega
        clear hk0
        cases hr : takeP d k with
        | none =>
          rw [hr] at HMv
          have HQn := Lib.hid (show Q = none by have h := HE7.out; rw [hr] at h; exact h.symm)
          have HMn := Lib.hid (show Calls Try.prog 36 #[.pointer (some ⟨X, 0, none⟩), .int .i64 ((k : Int) - 1)] w4 (fun r w' => r = .returned (.int .i64 (-1)) ∧ RS (fun k => Fo k ∨ k = H) w' B X R N rA rc ws b t e l m d s true ∧ Below B w4 w' ∧ Kept (fun j => ¬ (Fo j ∨ j = H)) w4 w') from HMv.out)
          clear hr HMv
          go_wp2_with fail
          refine Calls.mono HMn.out ?_
          rintro r w6 ⟨rfl, hs6, b6, k6⟩
          obtain ⟨_, _, hX6, _, _, _, x5, _⟩ := hs6.cells
          have H6 := Lib.hid (And.intro hs6 (And.intro b6 k6))
          clear hs6 b6 k6
          go_wp2_with fail
          go_ret
          rw [HQn.out]
          exact ⟨rfl, ⟨d, H6.out.1.narrow (fun _ h => .inl h)⟩, (HD.out.2.2.1.trans (H4.out.mono HD1.out.B_le.1)).trans H6.out.2.1, (HD.out.2.2.2.1.trans (Kept.of_below H4.out _)).trans (H6.out.2.2.more (fun j hj hf => hj (.inl hf)))⟩
        | some y =>
          obtain ⟨p, z⟩ := y
          rw [hr] at HMv
          have HMn := Lib.hid (show Calls Try.prog 36 #[.pointer (some ⟨X, 0, none⟩), .int .i64 ((k : Int) - 1)] w4 (fun r w' => r = .returned (.int .i64 ((p : Int) - 1)) ∧ RS (fun k => Fo k ∨ k = H) w' B X R N rA rc ws b t e l m z s false ∧ Below B w4 w' ∧ Kept (fun j => ¬ (Fo j ∨ j = H)) w4 w') from HMv.out)
          have HZ : Hid (PtL l (setC z q p) s P (i + 1) ∧ p ≤ z.top ∧ d.top ≤ z.top ∧ scanC s (P - (i + 1)) (i + 1) (setC z q p) = Q) := Lib.hid (by
            obtain ⟨_, _, _, hI, _⟩ := HD1.out.free 0
            have hs := scan_step (at_ := s) (P := P) (i := i) (q := p) (d := z) hI.1 hI.2.1 hlt HD.out.2.2.2.2.2.1 HD.out.1 (by rw [← HD.out.2.2.2.2.2.2.2.1, ← HD.out.2.2.2.2.2.2.2.2.1]; exact hr)
            rw [← HD.out.2.2.2.2.2.2.2.1] at hs
            have h := HE7.out
            rw [hr] at h
            exact ⟨hs.2.2.1, hs.2.2.2.1, hs.2.2.2.2.1, h⟩)
          obtain ⟨to, hto⟩ : ∃ to : Int, to = (p : Int) - 1 := ⟨_, rfl⟩
          rw [← hto] at HMn
          clear hr HMv
          go_wp2_with fail
          refine Calls.mono HMn.out ?_
          rintro r w6 ⟨rfl, hs6, b6, k6⟩
          obtain ⟨A6, nc6, hX6, hN6, x1, x4, x5, n0, _, hrd6⟩ := hs6.cells
          obtain ⟨xf, nf, _, hI6, hm6⟩ := hs6.free 0
          have hp8 : (p : Int) ≤ 8192 := by have := HZ.out.2.1; have := hI6.2.1.2.2; have := hI6.2.1.2.1; omega
          have hqz : q < z.T.length := by omega
          obtain ⟨ad6, rfl, _, _⟩ := hrd6 q hqz
          have HLT := Lib.hid hm6.symm
          have HRow := Lib.hid hrd6
          have HLen := Lib.hid (show ([] : List (BitVec 64)).length + z.T.length ≤ 4294967296 by have := hI6.2.1.2.1; simp; omega)
          have HPos := Lib.hid (show 0 < z.T.length by omega)
          have hg6 := (k6.bk (HD.out.2.2.2.2.1.below H4.out HD.out.2.2.2.2.1.lt) (fun h => h (.inr rfl)))
          have H6 := Lib.hid (And.intro hs6 (And.intro b6 (And.intro k6 hg6)))
          have hto2 : to + 1 = (p : Int) := by omega
          have hto3 : (-1 : Int) ≤ to := by omega
          have hto4 : to ≤ 8191 := by omega
          clear hs6 b6 k6 hI6 hm6 hrd6 hg6 hto
          go_wp2_with (at_builtin; refine wp_app one64 u64v_one rfl (.tmp 77) (.tmp 84) rfl w6.heap.size _ [] rfl (ow_empty u64v 62 w6 w6.heap.size (Nat.le_refl _)) (some ad6) m nc6 z.T rfl HLT.out w6.heap.size (HRow.out.alloc (Nat.le_refl _) _) HLen.out (by decide) (by simp) ?_; intro v9 w9 ho9 hb9 hg9 hv9; rw [List.nil_append] at ho9; obtain ⟨q9, c9, e9⟩ := ow_at ho9 HPos.out; rw [← HLT.out] at e9; subst e9; have hb69 := ((Gw.alloc w6 _).trans hb9); have x1 := (hb69.cell (p := ⟨X, 1, none⟩) hX6).trans x1; have x4 := (hb69.cell (p := ⟨X, 4, none⟩) hX6).trans x4; have n0 := (hb69.cell (p := ⟨N, 0, none⟩) hN6).trans n0; have hge := ho9.ge; have hrow := ho9.cell hqz; have hfre := ho9.free q; have hne1 : X ≠ q9 := Nat.ne_of_lt (Nat.lt_of_lt_of_le hX6 hge.1); have hne2 : N ≠ q9 := Nat.ne_of_lt (Nat.lt_of_lt_of_le hN6 hge.1); have nf9 := ((H6.out.1.below hb69).free 0).2.1; have H9 := Lib.hid (And.intro ho9 hb69); clear ho9 hb9 hg9 hv9 hb69 x5)
          have ev : u64v (BitVec.ofNat 64 p) = .int .u64 (p : Int) := by
            show Value.int .u64 ((BitVec.ofNat 64 p).toNat : Int) = _
            rw [ofNat_nat (by omega)]
          have ho10 := H9.out.1.set hqz (BitVec.ofNat 64 p)
          rw [ev] at ho10
          have hl := H6.out.1.laid (H9.out.2.setCell (H9.out.1.ge.1) (.int .u64 (p : Int))) q p ho10
          have hw6 : Below B w w6 := (HD.out.2.2.1.trans (H4.out.mono HD1.out.B_le.1)).trans H6.out.2.1
          have kw6 : Kept (fun j => ¬ Fo j) w w6 := (HD.out.2.2.2.1.trans (Kept.of_below H4.out _)).trans (H6.out.2.2.1.more (fun j hj hf => hj (.inl hf)))
          have HN := Lib.hid (show ∃ d, RS (fun k => Fo k ∨ k = H) ((w9.setCell ⟨q9, q, none⟩ (.int .u64 (p : Int))).setCell ⟨N, 0, none⟩ (.slice (some ⟨q9, 0, none⟩) m c9)) B X R N rA rc ws b t e l m d s false ∧ PtL l d s P (i + 1) ∧ c.top ≤ d.top ∧ Below B w ((w9.setCell ⟨q9, q, none⟩ (.int .u64 (p : Int))).setCell ⟨N, 0, none⟩ (.slice (some ⟨q9, 0, none⟩) m c9)) ∧ Kept (fun k => ¬ Fo k) w ((w9.setCell ⟨q9, q, none⟩ (.int .u64 (p : Int))).setCell ⟨N, 0, none⟩ (.slice (some ⟨q9, 0, none⟩) m c9)) ∧ Bk ((w9.setCell ⟨q9, q, none⟩ (.int .u64 (p : Int))).setCell ⟨N, 0, none⟩ (.slice (some ⟨q9, 0, none⟩) m c9)) H 112 #[.int .i64 (P : Int), .int .i64 (n : Int), .bool false, .int .i64 0] ∧ scanC s (P - (i + 1)) (i + 1) d = Q from
            ⟨setC z q p, hl.1, HZ.out.1, Nat.le_trans HD.out.2.1 HZ.out.2.2.1, hw6.trans hl.2.1, kw6.trans (hl.2.2.more (fun j hj hf => hj (.inl hf))), hl.2.2.bk H6.out.2.2.2 (fun h => h (.inr rfl)), HZ.out.2.2.2⟩)
          clear ho10 hl hw6 kw6 ev
          go_roundw
          case rel => first | exact ⟨i + 1, by go_num, by omega, HN⟩ | ((repeat apply Exists.intro); refine ⟨?_, rfl⟩; exact ⟨i + 1, by go_num, by omega, HN⟩)
          case measure => simp [Go.RowKit.intOf]; omega
    · have p1 : ¬ (i : Int) < (P : Int) := by omega
      have hiP : i = P := by omega
      subst hiP
      have e8 : some d = Q := by rw [← e7, Nat.sub_self]; rfl
      have HE := Lib.hid (And.intro e1 (And.intro e4 (And.intro e5 e8)))
      have hz : ∃ z : Nat, z = s + sz := ⟨_, rfl⟩
      obtain ⟨z, hz⟩ := hz
      have hzi : (s : Int) + (sz : Int) = (z : Int) := by omega
      have Hz := Lib.hid (show nx = z by rw [Hx.out.2.1, hz])
      clear hrd n0 n2 x1 e1 e2 e3 e4 e5 e6 e7 e8 hS hz
      go_wp2_with fail
      refine on15 _ _ _ X H s sz z (i : Int) (n : Int) hX hHl x4 g0 g1 g2 g3 (by omega) (by omega) hzi HSz rfl rfl rfl ?_
      intro vals4 w4 hG h112 h114
      unfold IsV at h112 h114
      simp only [putD, Act.put, List.setIfInBounds_toArray, List.set_cons_zero, List.set_cons_succ, h112, h114]
      obtain ⟨r1, r2, r3⟩ := (HE.out.1.below hG).scanned z
      have HR := Lib.hid (And.intro r1 (And.intro r2 r3))
      have HG := Lib.hid hG
      have hX4 := Nat.lt_of_lt_of_le hX hG.size
      have x4 := (hG.cell (p := ⟨X, 4, none⟩) hX).trans x4
      have xf := ((HE.out.1.below hG).free 4).1
      clear hG h112 h114 r1 r2 r3 g0 g1 g2 g3 x5
      go_wp2_with fail
      go_ret
      rw [← HE.out.2.2.2, Hz.out]
      exact ⟨rfl, HR.out.1.narrow (fun _ h => .inl h), (HE.out.2.1.trans (HG.out.mono HE.out.1.B_le.1)).trans HR.out.2.1, (HE.out.2.2.1.trans (Kept.of_below HG.out _)).trans (HR.out.2.2.more (fun j hj hf => hj (.inl hf)))⟩
end
end Go.Proofs.Ytbanbpphadgoiaa
/- The reference's copier, step by step: roots, then objects. Conditions: right objects. -/
namespace Go.Proofs.Ytbanbpphadgoiaa
set_option linter.unusedVariables false
set_option linter.unusedSimpArgs false
open Go.RowKit Go.Maps
section
variable {Fo : Nat → Prop} {B X R N : Nat} {rA : Option Addr} {rc : Nat} {ws : List (BitVec 64)} {b t e : Nat} {l : List Nat} {m : Nat} {Z : Option (List Nat × Cy)} {xs : List Int}
def RtS (Fo : Nat → Prop) (W : World) (B X R N : Nat) (rA : Option Addr) (rc : Nat) (ws : List (BitVec 64)) (b t e : Nat) (l : List Nat) (m : Nat) (Z : Option (List Nat × Cy)) (ps : List Nat) (xs : List Int) : Prop :=
  ∃ (d : Cy) (full : Bool), RS Fo W B X R N rA rc ws b t e l m d 0 full ∧ ((full = true ∧ Z = none) ∨ (full = false ∧ ∃ (qs ys : List Nat), xs = backZ qs ∧ Chain ws d.T ys 0 d.top ∧ (∀ a ∈ ys, a ∈ l) ∧ contC m ps d qs = Z))
def GoS (full : Bool) (Fo : Nat → Prop) (W : World) (B X R N : Nat) (rA : Option Addr) (rc : Nat) (ws : List (BitVec 64)) (b t e : Nat) (l : List Nat) (m : Nat) (Z : Option (List Nat × Cy)) (f : Nat) (xs : List Int) : Prop :=
  ∃ (d : Cy) (s : Nat), RS Fo W B X R N rA rc ws b t e l m d s full ∧ ((full = true ∧ Z = none) ∨ (full = false ∧ ∃ (qs ys : List Nat), xs = backZ qs ∧ Chain ws d.T ys s d.top ∧ (∀ a ∈ ys, a ∈ l) ∧ m + 1 ≤ s + f ∧ (goC f s d).map (fun d => (qs, d)) = Z))
def EndS (Fo : Nat → Prop) (W : World) (B X R N : Nat) (rA : Option Addr) (rc : Nat) (ws : List (BitVec 64)) (b t e : Nat) (l : List Nat) (m : Nat) (Z : Option (List Nat × Cy)) (xs : List Int) : Prop :=
  ∃ (d : Cy) (s : Nat) (full : Bool), RS Fo W B X R N rA rc ws b t e l m d s full ∧ ((full = true ∧ Z = none) ∨ (full = false ∧ ∃ (qs : List Nat), xs = backZ qs ∧ Z = some (qs, d)))
theorem backZ_snoc (qs : List Nat) (q : Nat) : backZ (qs ++ [q]) = backZ qs ++ [(q : Int) - 1] := by unfold backZ; rw [List.map_append]; rfl
theorem rroot_step (w : World) (H : Heap ws l b t) (y : Int) (ps : List Nat) (h : RtS Fo w B X R N rA rc ws b t e l m Z (rootP y :: ps) xs) (hy : rootB l y = true) :
    Calls Try.prog 36 #[.pointer (some ⟨X, 0, none⟩), .int .i64 y] w (fun r w' => ∃ v : Int, r = .returned (.int .i64 v) ∧ RtS Fo w' B X R N rA rc ws b t e l m Z ps (xs ++ [v]) ∧ Below B w w' ∧ Kept (fun k => ¬ Fo k) w w') := by
  obtain ⟨d, full, h1, h2⟩ := h
  obtain ⟨e1, e2⟩ := rootP_of hy
  have hB := h1.B_le.1
  rw [e1]
  rcases h2 with ⟨rfl, hz⟩ | ⟨rfl, qs, ys, h3, h4, h5, h6⟩
  · refine (rmove_full w h1 (rootP y) e2).mono ?_
    rintro r w' ⟨v, rfl, b2⟩
    exact ⟨v, rfl, ⟨d, true, h1.below b2, .inl ⟨rfl, hz⟩⟩, b2.mono hB, Kept.of_below b2 _⟩
  · refine (rmove_c w H h1 (rootP y) e2).mono ?_
    intro r w' hk
    rw [contC_cons] at h6
    have hI := (h1.free 0).2.2.2.1
    cases hr : takeP d (rootP y) with
    | none =>
      rw [hr] at hk h6
      obtain ⟨rfl, hs, b2, k2⟩ := hk
      exact ⟨-1, rfl, ⟨d, true, hs, .inl ⟨rfl, h6.symm⟩⟩, b2, k2⟩
    | some z =>
      obtain ⟨q, z⟩ := z
      rw [hr] at hk h6
      obtain ⟨rfl, hs, b2, k2⟩ := hk
      obtain ⟨_, ext, k3, k4⟩ := takeP_inv H hI e2 h4 hr
      exact ⟨_, rfl, ⟨z, false, hs, .inr ⟨rfl, qs ++ [q], ys ++ ext, by rw [backZ_snoc, h3], k4, fun a ha => (List.mem_append.1 ha).elim (h5 a) (k3 a), h6⟩⟩, b2, k2⟩
/-- The roots are through. -/
theorem RtS.go {W : World} (h : RtS Fo W B X R N rA rc ws b t e l m Z [] xs) : ∃ full, GoS full Fo W B X R N rA rc ws b t e l m Z (m + 1) xs := by
  obtain ⟨d, full, h1, h2⟩ := h
  refine ⟨full, d, 0, h1, h2.imp id ?_⟩
  rintro ⟨hf, qs, ys, h3, h4, h5, h6⟩
  refine ⟨hf, qs, ys, h3, h4, h5, by omega, ?_⟩
  rw [← h6]
  show _ = finC m d (qs ++ [])
  rw [List.append_nil]
  rfl
theorem rone_step (w : World) (H : Heap ws l b t) (hm : m ≤ 8192) (full : Bool) (f : Nat) (h : GoS full Fo w B X R N rA rc ws b t e l m Z f xs) (hF : ∀ k, Fo k → k < w.heap.size) :
    Calls Try.prog 37 #[.pointer (some ⟨X, 0, none⟩)] w (fun r w' => ∃ bl : Bool, r = .returned (.bool bl) ∧ Below B w w' ∧ Kept (fun k => ¬ Fo k) w w' ∧ (bl = true → ∃ g, f = g + 1 ∧ GoS false Fo w' B X R N rA rc ws b t e l m Z g xs) ∧ (bl = false → EndS Fo w' B X R N rA rc ws b t e l m Z xs)) := by
  obtain ⟨d, s, h1, h2⟩ := h
  have hB := h1.B_le.1
  rcases h2 with ⟨rfl, hz⟩ | ⟨rfl, qs, ys, h3, h4, h5, h6, h7⟩
  · refine (rone_end w h1 (.inl rfl)).mono ?_
    rintro r w' ⟨rfl, b2⟩
    exact ⟨false, rfl, b2.mono hB, Kept.of_below b2 _, fun h => (by cases h), fun _ => ⟨d, s, true, h1.below b2, .inl ⟨rfl, hz⟩⟩⟩
  · obtain ⟨_, _, _, hI, hdm⟩ := h1.free 0
    have hL := hI.2.1
    by_cases hlt : s < d.top
    · obtain ⟨a, ys2, rfl, n1, n2, n3, n4, n5, n6, n7, n8⟩ := next_obj H hI h4 h5 hlt
      obtain ⟨g, rfl⟩ : ∃ g, f = g + 1 := ⟨f - 1, by have := hL.2.2; omega⟩
      have hgo : goC (g + 1) s d = match scanC s (P0 (d.T.getD s 0#64)) 0 d with
          | none => none
          | some z => goC g (s + szX (z.T.getD s 0#64)) z := by
        show (if s < d.top then _ else _) = _
        rw [if_pos hlt]
        cases scanC s (P0 (d.T.getD s 0#64)) 0 d <;> rfl
      rw [hgo] at h7
      refine (rone_c w H h1 hm hlt n3 n4 hF _ rfl).mono ?_
      intro r w' hk
      cases hr : scanC s (P0 (d.T.getD s 0#64)) 0 d with
      | none =>
        rw [hr] at hk h7
        obtain ⟨rfl, ⟨d2, hs⟩, b2, k2⟩ := hk
        exact ⟨false, rfl, b2, k2, fun h => (by cases h), fun _ => ⟨d2, s, true, hs, .inl ⟨rfl, h7.symm⟩⟩⟩
      | some z =>
        rw [hr] at hk h7
        obtain ⟨rfl, hs, b2, k2⟩ := hk
        obtain ⟨j1, ⟨ext, j2, j3⟩, j4, j5, j6, j7⟩ := scanC_inv H (P0 (d.T.getD s 0#64)) 0 d ys2 (by omega) hI n5 n6 n4 n7 (fun a h => h5 a (.tail _ h)) hr
        have hza : z.T.getD s 0#64 = d.T.getD s 0#64 := j7 s (by omega) (by omega)
        have h7 : (goC g (s + szX (z.T.getD s 0#64)) z).map (fun d => (qs, d)) = Z := h7
        rw [hza] at h7
        exact ⟨true, rfl, b2, k2, fun _ => ⟨g, rfl, z, _, hs, .inr ⟨rfl, qs, ys2 ++ ext, h3, j3, fun a h => (List.mem_append.1 h).elim (fun h => h5 a (.tail _ h)) (j2 a), by omega, h7⟩⟩, fun h => (by cases h)⟩
    · refine (rone_end w h1 (.inr (by omega))).mono ?_
      rintro r w' ⟨rfl, b2⟩
      have hgo : goC f s d = some d := by
        cases f with
        | zero => rfl
        | succ f' => show (if s < d.top then _ else _) = _; rw [if_neg hlt]
      rw [hgo] at h7
      exact ⟨false, rfl, b2.mono hB, Kept.of_below b2 _, fun h => (by cases h), fun _ => ⟨d, s, false, h1.below b2, .inr ⟨rfl, qs, h3, h7.symm⟩⟩⟩
/-- A row that is foreign to the copier grows. -/
theorem RS.grow {c : Cy} {s : Nat} {full : Bool} {v v2 : Value} {D : Nat} {w w2 : World} {ys : List Int} {o : Obj} (h : RS (fun k => v.ownBlock = some k) w B X R N rA rc ws b t e l m c s full) (hv : ∀ k, v.ownBlock = some k → B ≤ k) (hg : (w.alloc o).grownBy w2 v.ownBlock) (he : v2.ownBlock = v.ownBlock ∨ v2.ownBlock = some (w.alloc o).heap.size) (ho : Ow zV 3 w2 D v2 ys) :
    RS (fun k => v2.ownBlock = some k) w2 B X R N rA rc ws b t e l m c s full ∧ Below B w w2 := by
  have K := Kept.grown hg
  have h' := h.below (Gw.alloc w o)
  refine ⟨h'.kept (S := fun k => v.ownBlock = some k) K (fun j hj => ⟨hj, hv j hj⟩) (fun k hk => ?_), ((Gw.alloc w o).mono h.B_le.1).trans (K.below h'.B_le.1 hv)⟩
  rcases he with e | e
  · exact .inl (e ▸ hk)
  · rw [e] at hk
    injection hk with hk
    exact .inr ⟨by omega, by have := (ho.lt k (by rw [e, hk])).2; omega⟩
end
end Go.Proofs.Ytbanbpphadgoiaa
/- The reference's Well: its regions that draw their order. Conditions: lengths. (BEGUN: Well itself is still to come.) -/
namespace Go.Proofs.Ytbanbpphadgoiaa
set_option linter.unusedVariables false
set_option linter.unusedSimpArgs false
open Go.RowKit
set_option maxHeartbeats 1000000
set_option maxRecDepth 100000
theorem rw11 (Q : Exit → Act → World → Prop) (a0 : Act) (w : World) (R a k q i N : Nat) (A B : Option Addr) (L c cl : Nat) (b t e y : Int) (r : Bool) (x : BitVec 64) (hR : R < w.heap.size) (ad ad2 : Addr) (hA : A = some ad) (hB : B = some ad2) (c0 : w.cell? ⟨R, 0, none⟩ = some (.slice A L c)) (hlt : (ad2.add i).block < w.heap.size) (hlt2 : (ad.add q).block < w.heap.size) (cl1 : w.cell? (ad2.add i) = some (.int .i64 (a : Int))) (q0 : (0 : Int) ≤ (i : Int)) (q1 : (i : Int) < (N : Int)) (q2 : (0 : Int) ≤ (a : Int)) (q3 : (a : Int) ≤ 100000) (q4 : (k : Int) ≤ 100) (q5 : (0 : Int) ≤ (k : Int)) (q6 : (q : Int) < (L : Int)) (q7 : (a : Int) + 1 + (k : Int) = (q : Int)) (q8 : (0 : Int) ≤ (q : Int)) (cw : w.cell? (ad.add q) = some (.int .u64 (U64 x))) (hp : Hid (∀ W, Below w.heap.size w W → Calls Try.prog 66 #[.slice B N cl, .int .u64 (U64 x)] W (RetP (.bool r) W))) (hsz : a0.tmps.size = 65) (sl0 : a0.tmps.getD 0 undef = .pointer (some ⟨R, 0, none⟩)) (sl3 : a0.tmps.getD 3 undef = .slice B N cl) (sl5 : a0.tmps.getD 5 undef = .int .i64 (i : Int)) (sl8 : a0.tmps.getD 8 undef = .int .i64 (k : Int))
    (fin : ∀ (vals : Nat → Value) (w1 : World), Below w.heap.size w w1 → (IsV (.bool (!r))) (vals 15) w1 → Q .normal (putD vals [42, 43, 44, 45, 46, 47, 48, 49, 50, 51, 52, 53, 54, 55, 56, 57] 0 a0) w1) :
    (Code.region 11 (regIn Try.f34 11) true).wp Try.prog Q a0 w := by
  refine region_by (G := fun w w1 => Below w.heap.size w w1) [IsV (.slice B N cl),
    IsV (.pointer (some ⟨R, 0, none⟩)),
    IsV (.pointer (some ⟨R, 0, none⟩)),
    IsV (.pointer (some ⟨R, 0, none⟩)),
    IsV (.slice A L c),
    IsV (.slice B N cl),
    IsV (.int .i64 (i : Int)),
    IsV (.pointer (some (ad2.add i))),
    IsV (.int .i64 (a : Int)),
    IsV (.int .i64 ((a : Int) + 1)),
    IsV (.int .i64 (k : Int)),
    IsV (.int .i64 (q : Int)),
    IsV (.pointer (some (ad.add q))),
    IsV (.int .u64 (U64 x)),
    IsV (.bool r),
    IsV (.bool (!r))]
    [42, 43, 44, 45, 46, 47, 48, 49, 50, 51, 52, 53, 54, 55, 56, 57] (by kernel_rfl) (Gw.drew _) Gw.trans (by rw [hsz]; kernel_rfl) (by kernel_rfl) ?_ ?_ ?_
  · intro f hf
    simp only [List.mem_cons, List.not_mem_nil, or_false] at hf
    rcases hf with rfl | rfl | rfl | rfl | rfl | rfl | rfl | rfl | rfl | rfl | rfl | rfl | rfl | rfl | rfl | rfl <;> intro v a b h g <;> first | exact IsV.mono h
  · refine ⟨?_, ?_, ?_, ?_, ?_, ?_, ?_, ?_, ?_, ?_, ?_, ?_, ?_, ?_, ?_, ?_, trivial⟩
    · exact owes_mv 3 (by kernel_rfl) (by kernel_rfl) (by kernel_rfl) sl3 (fun _ => rfl)
    · exact owes_mv 0 (by kernel_rfl) (by kernel_rfl) (by kernel_rfl) sl0 (fun _ => rfl)
    · refine owes_v (Go.Op.nilCheck (Go.Operand.tmp 43)) 0 [1] (by kernel_rfl) (by kernel_rfl) (by kernel_rfl) rfl fun vals w1 ρ hG hF hρ hcst hfun => ?_
      have e43 : ρ (.tmp 43) = .pointer (some ⟨R, 0, none⟩) := ((hρ 43).trans (slotJ [1] (by rw [hsz]; decide) (by kernel_rfl))).trans (hF 1 (by decide))
      clear hρ hF hcst hfun sl0 sl3 sl5 sl8 fin
      exact opv_val (by go_simp <;> rfl) ⟨gw_self _, rfl⟩
    · refine owes_v (Go.Op.fieldAddr 30 (Go.Operand.tmp 44) 0) 0 [2] (by kernel_rfl) (by kernel_rfl) (by kernel_rfl) rfl fun vals w1 ρ hG hF hρ hcst hfun => ?_
      have e44 : ρ (.tmp 44) = .pointer (some ⟨R, 0, none⟩) := ((hρ 44).trans (slotJ [2] (by rw [hsz]; decide) (by kernel_rfl))).trans (hF 2 (by decide))
      clear hρ hF hcst hfun sl0 sl3 sl5 sl8 fin
      exact opv_val (by go_simp <;> rfl) ⟨gw_self _, rfl⟩
    · refine owes_v (Go.Op.load 22 (Go.Operand.tmp 45)) 22 [3] (by kernel_rfl) (by kernel_rfl) (by kernel_rfl) rfl fun vals w1 ρ hG hF hρ hcst hfun => ?_
      have e45 : ρ (.tmp 45) = .pointer (some ⟨R, 0, none⟩) := ((hρ 45).trans (slotJ [3] (by rw [hsz]; decide) (by kernel_rfl))).trans (hF 3 (by decide))
      have k := (hG.cell (p := ⟨R, 0, none⟩) hR).trans c0
      clear hρ hF hcst hfun sl0 sl3 sl5 sl8 fin
      exact opv_val (by go_simp <;> rfl) ⟨gw_self _, rfl⟩
    · exact owes_mv 3 (by kernel_rfl) (by kernel_rfl) (by kernel_rfl) sl3 (fun _ => rfl)
    · exact owes_mv 5 (by kernel_rfl) (by kernel_rfl) (by kernel_rfl) sl5 (fun _ => rfl)
    · refine owes_v (Go.Op.indexAddr 23 (Go.Operand.tmp 47) (Go.Operand.tmp 48)) 0 [5, 6] (by kernel_rfl) (by kernel_rfl) (by kernel_rfl) rfl fun vals w1 ρ hG hF hρ hcst hfun => ?_
      have e47 : ρ (.tmp 47) = .slice B N cl := ((hρ 47).trans (slotJ [5, 6] (by rw [hsz]; decide) (by kernel_rfl))).trans (hF 5 (by decide))
      have e48 : ρ (.tmp 48) = .int .i64 (i : Int) := ((hρ 48).trans (slotJ [5, 6] (by rw [hsz]; decide) (by kernel_rfl))).trans (hF 6 (by decide))
      subst hB
      clear hρ hF hcst hfun sl0 sl3 sl5 sl8 fin
      exact opv_val (by go_simp <;> rfl) ⟨gw_self _, rfl⟩
    · refine owes_v (Go.Op.load 3 (Go.Operand.tmp 49)) 3 [7] (by kernel_rfl) (by kernel_rfl) (by kernel_rfl) rfl fun vals w1 ρ hG hF hρ hcst hfun => ?_
      have e49 : ρ (.tmp 49) = .pointer (some (ad2.add i)) := ((hρ 49).trans (slotJ [7] (by rw [hsz]; decide) (by kernel_rfl))).trans (hF 7 (by decide))
      have k := (hG.cell (p := ad2.add i) hlt).trans cl1
      clear hρ hF hcst hfun sl0 sl3 sl5 sl8 fin
      exact opv_val (by go_simp <;> rfl) ⟨gw_self _, rfl⟩
    · refine owes_v (Go.Op.binOp Go.BinOp.add 3 (Go.Operand.tmp 50) (Go.Operand.const (Go.Value.int Go.IntKind.i64 1)) 3) 3 [8] (by kernel_rfl) (by kernel_rfl) (by kernel_rfl) rfl fun vals w1 ρ hG hF hρ hcst hfun => ?_
      have e50 : ρ (.tmp 50) = .int .i64 (a : Int) := ((hρ 50).trans (slotJ [8] (by rw [hsz]; decide) (by kernel_rfl))).trans (hF 8 (by decide))
      have kw0 : IntKind.i64.wrap (((a : Int) + 1)) = ((a : Int) + 1) := wrapIn (by omega) (by omega)
      clear hρ hF hfun sl0 sl3 sl5 sl8 fin
      exact opv_val (by go_simp <;> rfl) ⟨gw_self _, rfl⟩
    · exact owes_mv 8 (by kernel_rfl) (by kernel_rfl) (by kernel_rfl) sl8 (fun _ => rfl)
    · refine owes_v (Go.Op.binOp Go.BinOp.add 3 (Go.Operand.tmp 51) (Go.Operand.tmp 52) 3) 3 [9, 10] (by kernel_rfl) (by kernel_rfl) (by kernel_rfl) rfl fun vals w1 ρ hG hF hρ hcst hfun => ?_
      have e51 : ρ (.tmp 51) = .int .i64 ((a : Int) + 1) := ((hρ 51).trans (slotJ [9, 10] (by rw [hsz]; decide) (by kernel_rfl))).trans (hF 9 (by decide))
      have e52 : ρ (.tmp 52) = .int .i64 (k : Int) := ((hρ 52).trans (slotJ [9, 10] (by rw [hsz]; decide) (by kernel_rfl))).trans (hF 10 (by decide))
      have kw0 : IntKind.i64.wrap (((q : Int))) = ((q : Int)) := wrapIn (by omega) (by omega)
      clear hρ hF hcst hfun sl0 sl3 sl5 sl8 fin
      exact opv_val (by go_simp <;> rfl) ⟨gw_self _, rfl⟩
    · refine owes_v (Go.Op.indexAddr 22 (Go.Operand.tmp 46) (Go.Operand.tmp 53)) 0 [4, 11] (by kernel_rfl) (by kernel_rfl) (by kernel_rfl) rfl fun vals w1 ρ hG hF hρ hcst hfun => ?_
      have e46 : ρ (.tmp 46) = .slice A L c := ((hρ 46).trans (slotJ [4, 11] (by rw [hsz]; decide) (by kernel_rfl))).trans (hF 4 (by decide))
      have e53 : ρ (.tmp 53) = .int .i64 (q : Int) := ((hρ 53).trans (slotJ [4, 11] (by rw [hsz]; decide) (by kernel_rfl))).trans (hF 11 (by decide))
      subst hA
      clear hρ hF hcst hfun sl0 sl3 sl5 sl8 fin
      exact opv_val (by go_simp <;> rfl) ⟨gw_self _, rfl⟩
    · refine owes_v (Go.Op.load 62 (Go.Operand.tmp 54)) 62 [12] (by kernel_rfl) (by kernel_rfl) (by kernel_rfl) rfl fun vals w1 ρ hG hF hρ hcst hfun => ?_
      have e54 : ρ (.tmp 54) = .pointer (some (ad.add q)) := ((hρ 54).trans (slotJ [12] (by rw [hsz]; decide) (by kernel_rfl))).trans (hF 12 (by decide))
      have k := (hG.cell (p := ad.add q) hlt2).trans cw
      clear hρ hF hcst hfun sl0 sl3 sl5 sl8 fin
      exact opv_val (by go_simp <;> rfl) ⟨gw_self _, rfl⟩
    · refine owes_v (Go.Op.call { callee := Go.Callee.value (Go.Operand.func 66), args := #[Go.Operand.tmp 42, Go.Operand.tmp 55], argTypes := #[23, 62] }) 4 [0, 13] (by kernel_rfl) (by kernel_rfl) (by kernel_rfl) rfl fun vals w1 ρ hG hF hρ hcst hfun => ?_
      have e42 : ρ (.tmp 42) = .slice B N cl := ((hρ 42).trans (slotJ [0, 13] (by rw [hsz]; decide) (by kernel_rfl))).trans (hF 0 (by decide))
      have e55 : ρ (.tmp 55) = .int .u64 (U64 x) := ((hρ 55).trans (slotJ [0, 13] (by rw [hsz]; decide) (by kernel_rfl))).trans (hF 13 (by decide))
      clear hρ hF hcst sl0 sl3 sl5 sl8 fin
      exact opv_enter (by go_simp <;> rfl) (of_ret (hp.out w1 hG))
    · refine owes_v (Go.Op.unOp Go.UnOp.not 4 (Go.Operand.tmp 56)) 4 [14] (by kernel_rfl) (by kernel_rfl) (by kernel_rfl) rfl fun vals w1 ρ hG hF hρ hcst hfun => ?_
      have e56 : ρ (.tmp 56) = .bool r := ((hρ 56).trans (slotJ [14] (by rw [hsz]; decide) (by kernel_rfl))).trans (hF 14 (by decide))
      clear hρ hF hcst hfun sl0 sl3 sl5 sl8 fin
      exact opv_val (by go_simp <;> rfl) ⟨gw_self _, rfl⟩
  · intro vals w1 hG hF
    exact fin vals w1 hG (hF 15 (by decide +kernel))
theorem rw13 (Q : Exit → Act → World → Prop) (a0 : Act) (w : World) (R a i N g : Nat) (B : Option Addr) (cl : Nat) (P n : Int) (r : Bool) (ad2 : Addr) (hB : B = some ad2) (hlt : (ad2.add i).block < w.heap.size) (cl1 : w.cell? (ad2.add i) = some (.int .i64 (a : Int))) (q0 : (0 : Int) ≤ (i : Int)) (q1 : (i : Int) < (N : Int)) (hg : g < w.heap.size) (g0 : w.cell? ⟨g, 0, none⟩ = some (.int .i64 P)) (g1 : w.cell? ⟨g, 1, none⟩ = some (.int .i64 n)) (g2 : w.cell? ⟨g, 2, none⟩ = some (.bool false)) (g3 : w.cell? ⟨g, 3, none⟩ = some (.int .i64 0)) (hp : Hid (∀ W, Below w.heap.size w W → Calls Try.prog 67 #[.pointer (some ⟨R, 0, none⟩), .int .i64 (a : Int), .agg #[.int .i64 P, .int .i64 n, .bool false, .int .i64 0]] W (RetP (.bool r) W))) (hsz : a0.tmps.size = 65) (sl0 : a0.tmps.getD 0 undef = .pointer (some ⟨R, 0, none⟩)) (sl3 : a0.tmps.getD 3 undef = .slice B N cl) (sl5 : a0.tmps.getD 5 undef = .int .i64 (i : Int)) (sl6 : a0.tmps.getD 6 undef = .pointer (some ⟨g, 0, none⟩))
    (fin : ∀ (vals : Nat → Value) (w1 : World), Below w.heap.size w w1 → (IsV (.bool r)) (vals 6) w1 → Q .normal (putD vals [58, 59, 60, 61, 62, 63, 64] 0 a0) w1) :
    (Code.region 13 (regIn Try.f34 13) true).wp Try.prog Q a0 w := by
  refine region_by (G := fun w w1 => Below w.heap.size w w1) [IsV (.pointer (some ⟨R, 0, none⟩)),
    IsV (.slice B N cl),
    IsV (.int .i64 (i : Int)),
    IsV (.pointer (some (ad2.add i))),
    IsV (.int .i64 (a : Int)),
    IsV (.agg #[.int .i64 P, .int .i64 n, .bool false, .int .i64 0]),
    IsV (.bool r)]
    [58, 59, 60, 61, 62, 63, 64] (by kernel_rfl) (Gw.drew _) Gw.trans (by rw [hsz]; kernel_rfl) (by kernel_rfl) ?_ ?_ ?_
  · intro f hf
    simp only [List.mem_cons, List.not_mem_nil, or_false] at hf
    rcases hf with rfl | rfl | rfl | rfl | rfl | rfl | rfl <;> intro v a b h g <;> first | exact IsV.mono h
  · refine ⟨?_, ?_, ?_, ?_, ?_, ?_, ?_, trivial⟩
    · exact owes_mv 0 (by kernel_rfl) (by kernel_rfl) (by kernel_rfl) sl0 (fun _ => rfl)
    · exact owes_mv 3 (by kernel_rfl) (by kernel_rfl) (by kernel_rfl) sl3 (fun _ => rfl)
    · exact owes_mv 5 (by kernel_rfl) (by kernel_rfl) (by kernel_rfl) sl5 (fun _ => rfl)
    · refine owes_v (Go.Op.indexAddr 23 (Go.Operand.tmp 59) (Go.Operand.tmp 60)) 0 [1, 2] (by kernel_rfl) (by kernel_rfl) (by kernel_rfl) rfl fun vals w1 ρ hG hF hρ hcst hfun => ?_
      have e59 : ρ (.tmp 59) = .slice B N cl := ((hρ 59).trans (slotJ [1, 2] (by rw [hsz]; decide) (by kernel_rfl))).trans (hF 1 (by decide))
      have e60 : ρ (.tmp 60) = .int .i64 (i : Int) := ((hρ 60).trans (slotJ [1, 2] (by rw [hsz]; decide) (by kernel_rfl))).trans (hF 2 (by decide))
      subst hB
      clear hρ hF hcst hfun sl0 sl3 sl5 sl6 fin
      exact opv_val (by go_simp <;> rfl) ⟨gw_self _, rfl⟩
    · refine owes_v (Go.Op.load 3 (Go.Operand.tmp 61)) 3 [3] (by kernel_rfl) (by kernel_rfl) (by kernel_rfl) rfl fun vals w1 ρ hG hF hρ hcst hfun => ?_
      have e61 : ρ (.tmp 61) = .pointer (some (ad2.add i)) := ((hρ 61).trans (slotJ [3] (by rw [hsz]; decide) (by kernel_rfl))).trans (hF 3 (by decide))
      have k := (hG.cell (p := ad2.add i) hlt).trans cl1
      clear hρ hF hcst hfun sl0 sl3 sl5 sl6 fin
      exact opv_val (by go_simp <;> rfl) ⟨gw_self _, rfl⟩
    · refine owes_v (Go.Op.load 112 (Go.Operand.tmp 6)) 112 [] (by kernel_rfl) (by kernel_rfl) (by kernel_rfl) rfl fun vals w1 ρ hG hF hρ hcst hfun => ?_
      have e6 : ρ (.tmp 6) = .pointer (some ⟨g, 0, none⟩) := ((hρ 6).trans (slotO [] (by kernel_rfl))).trans sl6
      have k0 := (hG.cell (p := ⟨g, 0, none⟩) hg).trans g0; have k1 := (hG.cell (p := ⟨g, 1, none⟩) hg).trans g1; have k2 := (hG.cell (p := ⟨g, 2, none⟩) hg).trans g2; have k3 := (hG.cell (p := ⟨g, 3, none⟩) hg).trans g3
      clear hρ hF hcst hfun sl0 sl3 sl5 sl6 fin
      exact opv_val (by go_simp <;> rfl) ⟨gw_self _, rfl⟩
    · refine owes_v (Go.Op.call { callee := Go.Callee.value (Go.Operand.func 67), args := #[Go.Operand.tmp 58, Go.Operand.tmp 62, Go.Operand.tmp 63], argTypes := #[28, 3, 112] }) 4 [0, 4, 5] (by kernel_rfl) (by kernel_rfl) (by kernel_rfl) rfl fun vals w1 ρ hG hF hρ hcst hfun => ?_
      have e58 : ρ (.tmp 58) = .pointer (some ⟨R, 0, none⟩) := ((hρ 58).trans (slotJ [0, 4, 5] (by rw [hsz]; decide) (by kernel_rfl))).trans (hF 0 (by decide))
      have e62 : ρ (.tmp 62) = .int .i64 (a : Int) := ((hρ 62).trans (slotJ [0, 4, 5] (by rw [hsz]; decide) (by kernel_rfl))).trans (hF 4 (by decide))
      have e63 : ρ (.tmp 63) = .agg #[.int .i64 P, .int .i64 n, .bool false, .int .i64 0] := ((hρ 63).trans (slotJ [0, 4, 5] (by rw [hsz]; decide) (by kernel_rfl))).trans (hF 5 (by decide))
      clear hρ hF hcst sl0 sl3 sl5 sl6 fin
      exact opv_enter (by go_simp <;> rfl) (of_ret (hp.out w1 hG))
  · intro vals w1 hG hF
    exact fin vals w1 hG (hF 6 (by decide +kernel))
end Go.Proofs.Ytbanbpphadgoiaa
