/- Texts joined: CkI CkJ CkK CkL CkM ObO OpenW. -/
import Derived.Test.YtaminpfgkegibaaXa4
import Derived.Test.YtaminpfgkegibaaBitsA
import Derived.Test.YtaminpfgkegibaaMmC
import Derived.Test.YtaminpfgkegibaaSpH
import Derived.Test.YtaminpfgkegibaaFrame
import Derived.Test.YtaminpfgkegibaaMmA
/- The document's Found, of right objects. Conditions: lengths. -/
namespace Go.Proofs.Ytaminpfgkegibaa
set_option linter.unusedVariables false
set_option linter.unusedSimpArgs false
open Go.RowKit Go.Maps
set_option maxHeartbeats 4000000
set_option maxRecDepth 100000
theorem rfound_c (w : World) (A : Option Addr) (c : Nat) (ws : List (BitVec 64)) (b t : Nat) (l : List Nat) (hr : Rd u64v w w.heap.size A ws) (hbt : b ≤ t) (htw : t ≤ ws.length) (hl : ws.length ≤ 8192) (ho : objF ws t (t + 1) b = some l) :
    Calls Try.prog 30 #[.slice A ws.length c, .int .i64 (b : Int), .int .i64 (t : Int)] w (fun r w' => ∃ A' c', r = .returned (.tuple #[.slice A' l.length c', .int .i64 (-1)]) ∧ Ow iN 3 w' w.heap.size (.slice A' l.length c') l ∧ Below w.heap.size w w') := by
  have hF := found_obj ws t (t + 1) b l ho
  obtain ⟨N, hN⟩ : ∃ N, N = ws.length := ⟨_, rfl⟩
  have HX := Lib.hid (And.intro hr (And.intro hbt (And.intro htw (And.intro hl (And.intro hF hN)))))
  have HS0 : Hid (∃ pd n, Ow iN 3 w w.heap.size (.slice none 0 0) pd ∧ pd ++ (foundN ws t n b).1 = l ∧ (foundN ws t n b).2 = none ∧ t + 1 ≤ b + n ∧ Below w.heap.size w w) := Lib.hid ⟨[], t + 1, Ow.nil_ _ _ _ _, by rw [hF]; rfl, by rw [hF], by omega, Below.refl _ _⟩
  have tI : (t : Int) ≤ 8192 := by omega
  have bI : (b : Int) ≤ 8192 := by omega
  rw [← hN]
  clear hr hbt htw hl hF hN ho
  go_enter Try.func30, Try.ntmps30
  go_wp2_with fail
  go_loopw [8, 9] (fun o x W => ∃ a : Nat, x = .int .i64 a ∧ b ≤ a ∧ a ≤ t ∧ Hid (∃ pd n, Ow iN 3 W w.heap.size o pd ∧ pd ++ (foundN ws t n a).1 = l ∧ (foundN ws t n a).2 = none ∧ t + 1 ≤ a + n ∧ Below w.heap.size w W)) (fun _ x _ => t - (Go.RowKit.intOf x).toNat)
  case atStart => exact ⟨b, rfl, Nat.le_refl _, HX.out.2.1, HS0⟩
  case round =>
    obtain ⟨a, rfl, hba, hat, hS⟩ := hrel
    clear HS0
    obtain ⟨pd, n, e1, e3, e4, e5, e6⟩ := hS.out
    have p0 : (0 : Int) ≤ (a : Int) := by omega
    by_cases hlt : a < t
    · have p1 : (a : Int) < (t : Int) := by omega
      obtain ⟨x, hx⟩ : ∃ x, x = ws.getD a 0#64 := ⟨_, rfl⟩
      obtain ⟨m, rfl⟩ : ∃ m, n = m + 1 := ⟨n - 1, by omega⟩
      have hal : a < ws.length := by have := HX.out.2.2.1; omega
      unfold foundN at e3 e4
      rw [if_pos hlt, ← hx] at e3 e4
      by_cases hg : goodX x (t - a) = true
      · rw [if_pos hg] at e3 e4
        obtain ⟨hv, hP64, hB1024, hsx, hsz, hroom⟩ := head_of hg
        have HUn := Lib.hid (fun W => runpack_false x (goodX_out hg).2.1 W)
        rw [hv] at HUn
        obtain ⟨P, hP⟩ : ∃ P, P = P0 x := ⟨_, rfl⟩
        obtain ⟨nb, hn⟩ : ∃ P, P = B0 x := ⟨_, rfl⟩
        obtain ⟨sz, hszz⟩ : ∃ P, P = szX x := ⟨_, rfl⟩
        rw [← hP, ← hn] at HUn hsz
        rw [← hszz] at hsz hroom e3 e4
        have hs1 : 1 ≤ sz := by rw [hszz, hsx]; omega
        have HSz := Lib.hid (fun W => rsize_c (P : Int) (nb : Int) false 0 W)
        rw [hsz] at HSz
        obtain ⟨ad, rfl, hadl, hcw⟩ := (HX.out.1.below e6) a hal
        have hcx : wr.cell? (ad.add a) = some (.int .u64 (U64 x)) := by
          rw [hcw, hx, List.getD_eq_getElem?_getD, List.getElem?_eq_getElem hal]; rfl
        have q6 : (a : Int) < (N : Int) := by have := HX.out.2.2.2.2.2; omega
        have hpl : pd.length ≤ 8192 := by
          have h1 := congrArg List.length e3
          have h2 := found_len ws t (t + 1) b
          rw [HX.out.2.2.2.2.1] at h2
          have := HX.out.2.2.2.1
          have := HX.out.2.2.1
          simp at h1 h2
          omega
        have HE := Lib.hid (And.intro e1 (And.intro e3 (And.intro e4 (And.intro e5 (And.intro e6 hpl)))))
        have z1 : (sz : Int) ≤ (t : Int) - (a : Int) := by omega
        have z2 : (1 : Int) ≤ (sz : Int) := by omega
        clear e1 e3 e4 e5 e6 hS hx hg hv hsx hsz hP hn hszz hpl hroom hcw hadl
        go_wp2_with fail
        refine Calls.mono (HUn.out wr) ?_
        rintro r w3 ⟨rfl, b3⟩
        have H3 := Lib.hid b3
        clear b3 hcx
        go_wp2_with fail
        obtain ⟨Hb, hHb⟩ : ∃ H, H = w3.heap.size := ⟨_, rfl⟩
        obtain ⟨w4, hw4⟩ : ∃ w3', w3' = w3.alloc (.cells #[.int .i64 (P : Int), .int .i64 (nb : Int), .bool false, .int .i64 0] 88) := ⟨_, rfl⟩
        have hbk : Bk w4 Hb 88 #[.int .i64 (P : Int), .int .i64 (nb : Int), .bool false, .int .i64 0] := by rw [hw4, hHb]; exact Bk.new w3 _ _
        have b34 : Below w3.heap.size w3 w4 := by rw [hw4]; exact Gw.alloc w3 _
        rw [← hw4, ← hHb]
        obtain ⟨g0, g1, g2, g3⟩ := hbk.four
        have hHl := hbk.lt
        have HBk := Lib.hid (And.intro hbk (And.intro (H3.out.trans (b34.mono H3.out.size)) (show wr.heap.size ≤ Hb by have := H3.out.size; omega)))
        clear hw4 hHb b34 hbk
        go_wp2_with fail
        refine Calls.mono (HSz.out w4) ?_
        rintro r w5 ⟨rfl, hG⟩
        have b5 := HBk.out.2.1.trans (hG.mono HBk.out.2.1.size)
        have hbk5 := HBk.out.1.below hG HBk.out.1.lt
        have H5 := Lib.hid (And.intro b5 hbk5)
        have HO := Lib.hid (HE.out.1.below b5)
        have HLn := Lib.hid (show pd.length + [a].length ≤ 4294967296 by have := HE.out.2.2.2.2.2; simp; omega)
        have HBs := Lib.hid (show w.heap.size ≤ w5.heap.size by have := HE.out.2.2.2.2.1.size; have := b5.size; omega)
        clear hG b5 g0 g1 g2 g3 hHl hbk5
        go_wp2_with (at_builtin; refine wp_app oneI iN_one rfl (.tmp 40) (.tmp 42) rfl w.heap.size _ pd rfl (HO.out.alloc _) (some ⟨w5.heap.size, 0, none⟩) 1 1 [a] rfl rfl (w5.heap.size + 1) (rdN_new w5 a) HLn.out (by decide) (Nat.le_trans HBs.out (Gw.alloc w5 _).size) ?_; intro v6 w6 ho6 hb6 hg6 hv6; have hk6 := (H5.out.2.alloc (.cells #[.int .i64 (a : Int)] 3)).grownK hg6 (fun e => by have := (HE.out.1.lt Hb e.symm).2; have := HBk.out.2.2; omega); obtain ⟨g0, g1, g2, g3⟩ := hk6.four; have hHl := hk6.lt; have HK := Lib.hid (And.intro ho6 (And.intro hg6 (show w.heap.size ≤ w.heap.size from Nat.le_refl _))); clear ho6 hb6 hg6 hv6 hk6)
        refine Calls.mono (HSz.out w6) ?_
        rintro r w10 ⟨rfl, b10⟩
        have HN : Hid (∃ pd n, Ow iN 3 w10 w.heap.size v6 pd ∧ pd ++ (foundN ws t n (a + sz)).1 = l ∧ (foundN ws t n (a + sz)).2 = none ∧ t + 1 ≤ a + sz + n ∧ Below w.heap.size w w10) := by
          obtain ⟨ho6, hg6, _⟩ := HK.out
          obtain ⟨e1, e3, e4, e5, e6, hpl⟩ := HE.out
          have b5 := H5.out.1
          have h5 := e6.trans (b5.mono e6.size)
          have h56 : Below w.heap.size w5 w6 := ((Gw.alloc w5 _).mono h5.size).trans ((Kept.grown hg6).below (by have := (Gw.alloc w5 (.cells #[.int .i64 (a : Int)] 3)).size; have := h5.size; omega) (fun k hk => (e1.lt k hk).1))
          have h6 := h5.trans h56
          exact Lib.hid ⟨pd ++ [a], m, ho6.below b10, by rw [List.append_assoc]; exact e3, e4, by omega, h6.trans (b10.mono h6.size)⟩
        have zt : a + sz ≤ t := by omega
        have zb : b ≤ a + sz := by omega
        obtain ⟨nx, hnx⟩ : ∃ nx, nx = a + sz := ⟨_, rfl⟩
        rw [← hnx] at HN zt zb
        have z4 : (a : Int) + (sz : Int) = (nx : Int) := by omega
        have z5 : (nx : Int) ≤ 8192 := by omega
        have z6 : a < nx := by omega
        clear b10 g0 g1 g2 g3 hHl hnx
        go_wp2_with fail
        go_roundw
        case rel => first | exact ⟨nx, by go_num, zb, zt, HN⟩ | ((repeat apply Exists.intro); refine ⟨?_, rfl⟩; exact ⟨nx, by go_num, zb, zt, HN⟩)
        case measure => simp [Go.RowKit.intOf]; omega
      · rw [if_neg hg] at e4
        cases e4
    · have p1 : ¬ (a : Int) < (t : Int) := by omega
      have hF2 : foundN ws t n a = ([], none) := by
        cases n with
        | zero => rfl
        | succ m => unfold foundN; rw [if_neg hlt]
      rw [hF2] at e3 e4
      have hpd : pd = l := by rw [← e3]; exact (List.append_nil _).symm
      obtain ⟨oA, oc, eo, _⟩ := e1.form
      rw [hpd] at eo
      have HE := Lib.hid (And.intro e1 (And.intro hpd (And.intro eo e6)))
      clear e1 e3 e4 e5 e6 hS hF2 hpd eo
      go_wp2_with fail
      go_ret2
      obtain ⟨e1, hp, eo, e6⟩ := HE.out
      rw [hp] at e1
      refine ⟨oA, oc, by rw [eo]; rfl, eo ▸ e1, e6⟩
end Go.Proofs.Ytaminpfgkegibaa
/- The document's Space, of right objects. Conditions: lengths. -/
namespace Go.Proofs.Ytaminpfgkegibaa
set_option linter.unusedVariables false
set_option linter.unusedSimpArgs false
open Go.RowKit Go.Maps
set_option maxHeartbeats 8000000
set_option maxRecDepth 100000
theorem rspace_c (w : World) (A : Option Addr) (c : Nat) (ws : List (BitVec 64)) (b t : Nat) (l : List Nat) (hr : Rd u64v w w.heap.size A ws) (hbt : b ≤ t) (htw : t ≤ ws.length) (hl : ws.length ≤ 8192) (ho : objF ws t (t + 1) b = some l) (hlen : (allE ws l l).length ≤ 5000) :
    Calls Try.prog 15 #[.slice A ws.length c, .int .i64 (b : Int), .int .i64 (t : Int)] w (fun r w' => ∃ lv, r = .returned lv ∧ rFR w' w.heap.size lv (allE ws l l) ∧ Below w.heap.size w w') := by
  have HFd := Lib.hid (rfound_c w A c ws b t l hr hbt htw hl ho)
  have hF := found_obj ws t (t + 1) b l ho
  have hpg : ∀ a ∈ l, b ≤ a ∧ a < t ∧ goodX (ws.getD a 0#64) (t - a) = true := fun a ha => found_good ws t (t + 1) b a (by rw [hF]; exact ha)
  have hpl : l.length ≤ 8192 := by
    have h2 := found_len ws t (t + 1) b
    rw [hF] at h2
    have h3 : l.length ≤ t - b := h2
    omega
  obtain ⟨N, hN⟩ : ∃ N, N = ws.length := ⟨_, rfl⟩
  obtain ⟨M, hM⟩ : ∃ N, N = l.length := ⟨_, rfl⟩
  have HX := Lib.hid (And.intro hr (And.intro htw (And.intro hl (And.intro hpg (And.intro hN (And.intro hM hpl))))))
  obtain ⟨G, hG⟩ : ∃ G, G = allE ws l l := ⟨_, rfl⟩
  have HG := Lib.hid (And.intro hG (show G.length ≤ 5000 by rw [hG]; exact hlen))
  have tI : (t : Int) ≤ 8192 := by omega
  have bI : (b : Int) ≤ 8192 := by omega
  have MI : (M : Int) ≤ 8192 := by omega
  rw [← hN] at HFd ⊢
  rw [← hM] at HFd
  rw [← hG]
  clear hr hbt htw hl hF hN ho hpg hpl hM hG hlen
  go_enter Try.func15, Try.ntmps15
  go_wp2_with fail
  refine Calls.mono HFd.out ?_
  rintro r w1 ⟨pA, pc, rfl, hp1, b1⟩
  have H1 := Lib.hid (And.intro hp1 b1)
  clear hp1 b1
  go_wp2_with fail
  obtain ⟨R, hR⟩ : ∃ R, R = w1.heap.size := ⟨_, rfl⟩
  obtain ⟨w3, hw3⟩ : ∃ w3, w3 = w1.alloc (.cells #[.slice A N c, .int .i64 (b : Int), .int .i64 (t : Int), .int .i64 (t : Int)] 41) := ⟨_, rfl⟩
  have hbk : Bk w3 R 41 #[.slice A N c, .int .i64 (b : Int), .int .i64 (t : Int), .int .i64 (t : Int)] := by rw [hw3, hR]; exact Bk.new w1 _ _
  have b13 : Below w1.heap.size w1 w3 := by rw [hw3]; exact Gw.alloc w1 _
  have b03 := H1.out.2.trans (b13.mono H1.out.2.size)
  have hrf : RefAt w3 R A c ws b t t := ⟨by rw [← HX.out.2.2.2.2.1]; exact hbk, (HX.out.1.below b03).more b03.size⟩
  rw [← hw3, ← hR]
  have hp3 : Rd iN w3 w3.heap.size pA l := by
    have h := H1.out.1
    have e : M = l.length := HX.out.2.2.2.2.2.1
    rw [e] at h
    exact (h.rd.below b13).more b13.size
  have H3 := Lib.hid (And.intro hrf (And.intro hp3 b03))
  have HS0 : Hid (∃ fs', rFR w3 w3.heap.size (.slice none 0 0) fs' ∧ fs' ++ allE ws l (l.drop 0) = G ∧ Below w3.heap.size w3 w3) := Lib.hid ⟨[], rFR.nil _ _, by rw [HG.out.1]; rfl, Below.refl _ _⟩
  clear hw3 hR hbk b13 b03 hrf hp3
  go_loopw [7, 11] (fun o x W => ∃ i : Nat, x = .int .i64 i ∧ i ≤ M ∧ Hid (∃ fs', rFR W w3.heap.size o fs' ∧ fs' ++ allE ws l (l.drop i) = G ∧ Below w3.heap.size w3 W)) (fun _ x _ => M - (Go.RowKit.intOf x).toNat)
  case atStart => exact ⟨0, rfl, Nat.zero_le _, HS0⟩
  case round =>
    obtain ⟨i, rfl, hi, hS⟩ := hrel
    clear HS0
    obtain ⟨fs', e1, e2, e3⟩ := hS.out
    have i0 : (0 : Int) ≤ (i : Int) := by omega
    by_cases hlt : i < M
    · have i1 : (i : Int) < (M : Int) := by omega
      have hil : i < l.length := by have := HX.out.2.2.2.2.2.1; omega
      obtain ⟨a, ha⟩ : ∃ a, a = l[i] := ⟨_, rfl⟩
      obtain ⟨adp, rfl, hadp, hcp⟩ := H3.out.2.1 i hil
      rw [← ha] at hcp
      unfold iN at hcp
      have hal0 : a ∈ l := by rw [ha]; exact List.getElem_mem _
      obtain ⟨g1, g2, hg⟩ := HX.out.2.2.2.1 a hal0
      obtain ⟨x, hx⟩ : ∃ x, x = ws.getD a 0#64 := ⟨_, rfl⟩
      rw [← hx] at hg
      obtain ⟨hv, hP64, hB1024, hsx, hsz, hroom⟩ := head_of hg
      have HUn := Lib.hid (fun W => runpack_false x (goodX_out hg).2.1 W)
      rw [hv] at HUn
      obtain ⟨P, hP⟩ : ∃ P, P = P0 x := ⟨_, rfl⟩
      obtain ⟨nb, hn⟩ : ∃ P, P = B0 x := ⟨_, rfl⟩
      obtain ⟨sz, hszz⟩ : ∃ P, P = szX x := ⟨_, rfl⟩
      rw [← hP] at HUn hsz hP64 hsx
      rw [← hn] at HUn hsz hB1024 hsx
      rw [← hszz] at hsz hroom hsx
      have HSz := Lib.hid (fun W => rsize_c (P : Int) (nb : Int) false 0 W)
      rw [hsz] at HSz
      have hal : a < ws.length := by have := HX.out.2.1; omega
      obtain ⟨ad, rfl, hadl, hcw⟩ := (H3.out.1.rd) a hal
      have hcx : w3.cell? (ad.add a) = some (.int .u64 (U64 x)) := by
        rw [hcw, hx, List.getD_eq_getElem?_getD, List.getElem?_eq_getElem hal]; rfl
      have q6 : (a : Int) < (N : Int) := by have := HX.out.2.2.2.2.1; omega
      have a0 : (0 : Int) ≤ (a : Int) := by omega
      have aI : (a : Int) ≤ 8192 := by omega
      have hl9 : (adp.add i).block < w3.heap.size := by rw [add_block]; exact hadp
      have hl8 : ∀ j, (ad.add j).block < w3.heap.size := fun j => by rw [add_block]; exact hadl
      have HC := Lib.hid (fun W (hb : Below w3.heap.size w3 W) => show (adp.add i).block < W.heap.size ∧ W.cell? (adp.add i) = some (.int .i64 (a : Int)) ∧ W.cell? (ad.add a) = some (.int .u64 (U64 x)) from ⟨Nat.lt_of_lt_of_le hl9 hb.size, (hb.cell (p := adp.add i) hl9).trans hcp, (hb.cell (p := ad.add a) (hl8 a)).trans hcx⟩)
      have HPad := Lib.hid (fun W (hb : Below w3.heap.size w3 W) => rpad_c W R (some ad) c ws b t t (H3.out.1.below hb) (by have := HX.out.2.2.1; omega) a P nb sz hP64 hB1024 hsz (by omega) (by have := HX.out.2.1; omega) (by omega))
      have hpd : (!padB ws (8 * (a + 1 + P) + nb) (8 * (a + sz) - (8 * (a + 1 + P) + nb))) = !padN ws a := by unfold padN; rw [← hx, ← hP, ← hn, ← hszz]
      rw [hpd] at HPad
      obtain ⟨pr, hpr⟩ : ∃ pr, pr = padN ws a := ⟨_, rfl⟩
      rw [← hpr] at HPad
      have hdr : l.drop i = a :: l.drop (i + 1) := by rw [List.drop_eq_getElem_cons hil, ha]
      rw [hdr] at e2
      obtain ⟨G2, hG2⟩ : ∃ G2, G2 = fs' ++ ptrF ws l a P 0 := ⟨_, rfl⟩
      have hpf : padF ws a = if pr = true then [] else [(a + sz - 1, ⟨#[112, 97, 100]⟩)] := by unfold padF; rw [← hpr, ← hx, ← hszz]; rfl
      have e2' : G2 ++ (if pr = true then [] else [(a + sz - 1, ⟨#[112, 97, 100]⟩)]) ++ allE ws l (l.drop (i + 1)) = G := by
        rw [hG2, ← hpf, ← e2]
        show fs' ++ ptrF ws l a P 0 ++ padF ws a ++ _ = fs' ++ (objE ws l a ++ _)
        unfold objE
        rw [← hx, ← hP]
        simp only [List.append_assoc]
      have hG2l : G2.length ≤ 5000 := by
        have h := HG.out.2
        rw [← e2', List.length_append, List.length_append] at h
        omega
      have HE := Lib.hid (And.intro e1 (And.intro e2' (And.intro e3 (And.intro hG2 hG2l))))
      have HA := Lib.hid (And.intro hx (And.intro hsx (And.intro hroom (And.intro g1 g2))))
      obtain ⟨hcl, hcp', hcx'⟩ := HC.out wr e3
      have PI : (P : Int) ≤ 64 := by omega
      have s1 : (1 : Int) ≤ (sz : Int) := by omega
      have s2 : (sz : Int) ≤ 8192 := by omega
      have sPa : a + 1 + P ≤ ws.length := by have := HX.out.2.1; omega
      clear e1 e2 e2' e3 hS ha hdr hil hal0 hg hv hsx hsz hroom hP hn hszz hx hcw hcx hcp hadl hadp hl9 hl8 hpd hpr hpf hG2 hG2l g1 g2 hal hP64 hB1024
      go_wp2_with fail
      refine Calls.mono (HUn.out wr) ?_
      rintro r w4 ⟨rfl, b4⟩
      have H4 := Lib.hid b4
      clear b4 hcl hcp' hcx'
      go_wp2_with fail
      obtain ⟨Hb, hHb⟩ : ∃ H, H = w4.heap.size := ⟨_, rfl⟩
      obtain ⟨w5, hw5⟩ : ∃ w3', w3' = w4.alloc (.cells #[.int .i64 (P : Int), .int .i64 (nb : Int), .bool false, .int .i64 0] 88) := ⟨_, rfl⟩
      have hbk : Bk w5 Hb 88 #[.int .i64 (P : Int), .int .i64 (nb : Int), .bool false, .int .i64 0] := by rw [hw5, hHb]; exact Bk.new w4 _ _
      have b45 : Below w4.heap.size w4 w5 := by rw [hw5]; exact Gw.alloc w4 _
      rw [← hw5, ← hHb]
      have b5 := H4.out.trans (b45.mono H4.out.size)
      have hHw : wr.heap.size ≤ Hb := by have := H4.out.size; omega
      have HS1 : Hid (∃ fs2, rFR w5 w3.heap.size u7 fs2 ∧ fs2 ++ ptrF ws l a (P - 0) 0 = G2 ∧ Bk w5 Hb 88 #[.int .i64 (P : Int), .int .i64 (nb : Int), .bool false, .int .i64 0] ∧ (∀ k, u7.ownBlock = some k → k ≠ Hb) ∧ Below w3.heap.size w3 w5) := Lib.hid ⟨fs', HE.out.1.below b5, HE.out.2.2.2.1.symm, hbk, fun k hk e => by have := (HE.out.1.lt k hk).2; omega, HE.out.2.2.1.trans (b5.mono HE.out.2.2.1.size)⟩
      clear hw5 hHb b45 hbk b5 hHw
      go_loopw [7, 14] (fun o x W => ∃ k : Nat, x = .int .i64 k ∧ k ≤ P ∧ Hid (∃ fs2, rFR W w3.heap.size o fs2 ∧ fs2 ++ ptrF ws l a (P - k) k = G2 ∧ Bk W Hb 88 #[.int .i64 (P : Int), .int .i64 (nb : Int), .bool false, .int .i64 0] ∧ (∀ k, o.ownBlock = some k → k ≠ Hb) ∧ Below w3.heap.size w3 W)) (fun _ x _ => P - (Go.RowKit.intOf x).toNat)
      case atStart => exact ⟨0, rfl, Nat.zero_le _, HS1⟩
      case round =>
        obtain ⟨k, rfl, hk, hS⟩ := hrel
        clear HS1
        obtain ⟨fs2, e1, e2, e3, e4, e5⟩ := hS.out
        obtain ⟨hcl, hcp, hcx⟩ := HC.out wr e5
        obtain ⟨g0, g1, g2, g3⟩ := e3.four
        have hHl := e3.lt
        have k0 : (0 : Int) ≤ (k : Int) := by omega
        by_cases hkP : k < P
        · have k1 : (k : Int) < (P : Int) := by omega
          obtain ⟨q, hq⟩ : ∃ q, q = a + 1 + k := ⟨_, rfl⟩
          have hql : q < ws.length := by omega
          have q8 : (a : Int) + 1 + (k : Int) = (q : Int) := by omega
          have q9 : (q : Int) < (N : Int) := by have := HX.out.2.2.2.2.1; omega
          have q7 : (0 : Int) ≤ (q : Int) := by omega
          obtain ⟨ad2, had2, hadl2, hcw2⟩ := (H3.out.1.below e5).rd q hql
          injection had2 with had2
          subst had2
          obtain ⟨y, hy⟩ : ∃ y, y = ws[q] := ⟨_, rfl⟩
          rw [← hy] at hcw2
          have hcy : wr.cell? (ad.add q) = some (.int .u64 (U64 y)) := hcw2
          have hye : ws.getD (a + 1 + k) 0#64 = y := by rw [← hq, hy, List.getD_eq_getElem?_getD, List.getElem?_eq_getElem hql]; rfl
          have hMl : M = l.length := HX.out.2.2.2.2.2.1
          have HPt := Lib.hid (points_c wr (some adp) pc l ((H3.out.2.1.below e5).more e5.size) (by have := HX.out.2.2.2.2.2.2; omega) (fun z hz => by have := (HX.out.2.2.2.1 z hz).2.1; omega) y)
          obtain ⟨r, hr⟩ : ∃ r, r = decide (y.toNat = 0 ∨ (1 ≤ y.toNat ∧ y.toNat - 1 ∈ l)) := ⟨_, rfl⟩
          have hpn : ptrN ws l a k = r := by unfold ptrN; rw [hye, hr]
          rw [← hr, ← hMl] at HPt
          obtain ⟨j, hj⟩ : ∃ j, P - k = j + 1 := ⟨P - k - 1, by omega⟩
          rw [hj, ptrF_at, hpn] at e2
          have hj2 : P - (k + 1) = j := by omega
          have hfl : fs2.length ≤ 5000 := by
            have h := HE.out.2.2.2.2
            rw [← e2, List.length_append] at h
            omega
          have HE2 := Lib.hid (And.intro e1 (And.intro e2 (And.intro e3 (And.intro e4 (And.intro e5 (And.intro hj2 (And.intro hq hfl)))))))
          have qI : (q : Int) ≤ 8192 := by have := HX.out.2.2.1; omega
          obtain ⟨yv, hyv⟩ : ∃ yv, yv = U64 y := ⟨_, rfl⟩
          rw [← hyv] at hcy HPt
          clear e1 e2 e3 e4 e5 hS hy hye hr hpn hj hj2 hq hyv hcw2 hadl2 hMl hfl
          cases r with
          | true =>
            go_wp2_with fail
            refine Calls.mono HPt.out ?_
            rintro r w7 ⟨rfl, b7⟩
            have HN : Hid (∃ fs2, rFR w7 w3.heap.size u7 fs2 ∧ fs2 ++ ptrF ws l a (P - (k + 1)) (k + 1) = G2 ∧ Bk w7 Hb 88 #[.int .i64 (P : Int), .int .i64 (nb : Int), .bool false, .int .i64 0] ∧ (∀ k, u7.ownBlock = some k → k ≠ Hb) ∧ Below w3.heap.size w3 w7) := by
              obtain ⟨e1, e2, e3, e4, e5, hj2, hq, hfl⟩ := HE2.out
              exact Lib.hid ⟨fs2, e1.below b7, by rw [hj2]; exact e2, e3.below b7 e3.lt, e4, e5.trans (b7.mono e5.size)⟩
            clear b7 hcl hcp hcx hcy g0 g1 g2 g3
            go_wp2_with fail
            go_roundw
            case rel => first | exact ⟨k + 1, by go_num, by omega, HN⟩ | ((repeat apply Exists.intro); refine ⟨?_, rfl⟩; exact ⟨k + 1, by go_num, by omega, HN⟩)
            case measure => simp [Go.RowKit.intOf]; omega
          | false =>
            go_wp2_with fail
            refine Calls.mono HPt.out ?_
            rintro r w7 ⟨rfl, b7⟩
            have H7 := Lib.hid b7
            have hcp := (b7.cell (p := adp.add i) hcl).trans hcp
            have hcl := Nat.lt_of_lt_of_le hcl b7.size
            have HO := Lib.hid (HE2.out.1.below b7)
            have HLn := Lib.hid (show fs2.length + [(q, (⟨#[112, 116, 114]⟩ : ByteArray))].length ≤ 100000 by have := HE2.out.2.2.2.2.2.2.2; simp; omega)
            have HBs := Lib.hid (show w3.heap.size ≤ w7.heap.size by have := HE2.out.2.2.2.2.1.size; have := b7.size; omega)
            clear b7 hcx hcy g0 g1 g2 g3
            go_wp2_with (at_builtin; refine rwp_appF rfl (.tmp 71) (.tmp 80) rfl rfl (HO.out.below (Gw.alloc w7 _)) (some ⟨w7.heap.size, 0, none⟩) 1 1 [(q, ⟨#[112, 116, 114]⟩)] rfl rfl (rrdF_new w7 q _) HLn.out (Nat.le_trans HBs.out (Gw.alloc w7 _).size) ?_; intro v8 w8 ho8 hb8 hg8 hv8; have H8 := Lib.hid (And.intro ho8 (And.intro hg8 hv8)); clear ho8 hb8 hg8 hv8)
            have HN : Hid (∃ fs2, rFR w8 w3.heap.size v8 fs2 ∧ fs2 ++ ptrF ws l a (P - (k + 1)) (k + 1) = G2 ∧ Bk w8 Hb 88 #[.int .i64 (P : Int), .int .i64 (nb : Int), .bool false, .int .i64 0] ∧ (∀ k, v8.ownBlock = some k → k ≠ Hb) ∧ Below w3.heap.size w3 w8) := by
              obtain ⟨e1, e2, e3, e4, e5, hj2, hq, hfl⟩ := HE2.out
              obtain ⟨ho8, hg8, hv8⟩ := H8.out
              have b7 := H7.out
              have hH7 := (e3.below b7 e3.lt)
              have hHl7 := hH7.lt
              have hA := Gw.alloc w7 (.cells #[.int .i64 (q : Int), .string ⟨#[112, 116, 114]⟩] 76)
              have h7 := e5.trans (b7.mono e5.size)
              refine Lib.hid ⟨fs2 ++ [(q, ⟨#[112, 116, 114]⟩)], ho8, ?_, (hH7.alloc _).grownK hg8 (fun e => e4 Hb e.symm rfl), fun k2 hk2 e => ?_, ?_⟩
              · rw [hj2, ← e2, hq, List.append_assoc]
                rfl
              · rcases hv8 with h | h
                · rw [h] at hk2; exact e4 k2 hk2 e
                · rw [h] at hk2
                  injection hk2 with hk2
                  have := hA.size
                  omega
              · exact (h7.trans (hA.mono h7.size)).trans ((Kept.grown hg8).below (by have := h7.size; have := hA.size; omega) (fun k2 hk2 => (e1.lt k2 hk2).1))
            clear hcp hcl
            go_roundw
            case rel => first | exact ⟨k + 1, by go_num, by omega, HN⟩ | ((repeat apply Exists.intro); refine ⟨?_, rfl⟩; exact ⟨k + 1, by go_num, by omega, HN⟩)
            case measure => simp [Go.RowKit.intOf]; omega
        · have k1 : ¬ (k : Int) < (P : Int) := by omega
          have hfs : fs2 = G2 := by rw [← e2, show P - k = 0 by omega]; exact (List.append_nil _).symm
          have HE2 := Lib.hid (And.intro e1 (And.intro hfs (And.intro e3 (And.intro e4 e5))))
          have HPd := Lib.hid (fun W (hb : Below wr.heap.size wr W) => HPad.out W (e5.trans (hb.mono e5.size)))
          clear e1 e2 e3 e4 e5 hS hfs hcx
          go_wp2_with fail
          refine rs15 _ _ _ Hb R i a M adp (some adp) pc (P : Int) (nb : Int) (!pr) hHl g0 g1 g2 g3 rfl hcl hcp i0 i1 HPd rfl ?_ ?_ ?_ ?_ ?_
          · rfl
          · rfl
          · rfl
          · rfl
          intro vals7 w7 hG h88
          unfold IsV at h88
          simp only [putD, Act.put, List.setIfInBounds_toArray, List.set_cons_zero, List.set_cons_succ, h88]
          have H7 := Lib.hid hG
          have hcp := (hG.cell (p := adp.add i) hcl).trans hcp
          have hcl := Nat.lt_of_lt_of_le hcl hG.size
          have g0 := (hG.cell (p := ⟨Hb, 0, none⟩) hHl).trans g0
          have g1 := (hG.cell (p := ⟨Hb, 1, none⟩) hHl).trans g1
          have g2 := (hG.cell (p := ⟨Hb, 2, none⟩) hHl).trans g2
          have g3 := (hG.cell (p := ⟨Hb, 3, none⟩) hHl).trans g3
          have hHl := Nat.lt_of_lt_of_le hHl hG.size
          clear hG h88
          cases pr with
          | true =>
            have HN : Hid (∃ fs', rFR w7 w3.heap.size u7 fs' ∧ fs' ++ allE ws l (l.drop (i + 1)) = G ∧ Below w3.heap.size w3 w7) := by
              obtain ⟨e1, hfs, e3, e4, e5⟩ := HE2.out
              have h := HE.out.2.1
              rw [if_pos rfl, List.append_nil] at h
              exact Lib.hid ⟨fs2, e1.below H7.out, by rw [hfs]; exact h, e5.trans (H7.out.mono e5.size)⟩
            clear g0 g1 g2 g3 hcp
            go_wp2_with fail
            go_roundw
            case rel => first | exact ⟨i + 1, by go_num, by omega, HN⟩ | ((repeat apply Exists.intro); refine ⟨?_, rfl⟩; exact ⟨i + 1, by go_num, by omega, HN⟩)
            case measure => simp [Go.RowKit.intOf]; omega
          | false =>
            obtain ⟨la, hla⟩ : ∃ la, la = a + sz - 1 := ⟨_, rfl⟩
            have la2 : (a : Int) + (sz : Int) - 1 = (la : Int) := by omega
            have HLa := Lib.hid hla
            go_wp2_with fail
            refine rs16 _ _ _ Hb i a M sz la adp (some adp) pc (P : Int) (nb : Int) u7 hHl g0 g1 g2 g3 rfl hcl hcp i0 i1 la2 aI s2 a0 s1 HSz rfl ?_ ?_ ?_ ?_ ?_
            · rfl
            · rfl
            · rfl
            · rfl
            intro vals8 w8 hG8 h89 h99
            obtain ⟨q8, h99, hq8, hb8⟩ := h99
            unfold IsV at h89
            simp only [putD, Act.put, List.setIfInBounds_toArray, List.set_cons_zero, List.set_cons_succ, h89, h99]
            have HO := Lib.hid ((HE2.out.1.below H7.out).below hG8)
            have H8 := Lib.hid hG8
            have HLn := Lib.hid (show fs2.length + [(la, (⟨#[112, 97, 100]⟩ : ByteArray))].length ≤ 100000 by have := HE.out.2.2.2.2; have := HE2.out.2.1; rw [this]; simp; omega)
            refine rwp_appF rfl (.tmp 89) (.tmp 99) rfl rfl HO.out (some ⟨q8, 0, none⟩) 1 1 [(la, ⟨#[112, 97, 100]⟩)] rfl rfl (rrdF_bk la _ hb8) HLn.out (by have := HE2.out.2.2.2.2.size; have := H7.out.size; have := hG8.size; omega) ?_
            intro v9 w9 ho9 hb9 hg9 hv9
            refine ⟨rfl, trivial, ?_⟩
            have HN : Hid (∃ fs', rFR w9 w3.heap.size v9 fs' ∧ fs' ++ allE ws l (l.drop (i + 1)) = G ∧ Below w3.heap.size w3 w9) := by
              obtain ⟨e1, hfs, e3, e4, e5⟩ := HE2.out
              have h := HE.out.2.1
              rw [if_neg (by decide), ← HLa.out] at h
              have h7 := e5.trans (H7.out.mono e5.size)
              have h8 := h7.trans (hG8.mono h7.size)
              exact Lib.hid ⟨fs2 ++ [(la, ⟨#[112, 97, 100]⟩)], ho9, by rw [hfs]; exact h, h8.trans ((Kept.grown hg9).below h8.size (fun k2 hk2 => (e1.lt k2 hk2).1))⟩
            clear ho9 hb9 hg9 hv9 hG8 h89 h99 hb8 hq8 g0 g1 g2 g3 hcp
            go_wp2_with fail
            go_roundw
            case rel => first | exact ⟨i + 1, by go_num, by omega, HN⟩ | ((repeat apply Exists.intro); refine ⟨?_, rfl⟩; exact ⟨i + 1, by go_num, by omega, HN⟩)
            case measure => simp [Go.RowKit.intOf]; omega
    · have i1 : ¬ (i : Int) < (M : Int) := by omega
      have hfs : fs' = G := by
        have hMl : M = l.length := HX.out.2.2.2.2.2.1
        rw [← e2, List.drop_of_length_le (by omega)]
        exact (List.append_nil _).symm
      have HE := Lib.hid (And.intro e1 (And.intro hfs e3))
      clear e1 e2 e3 hS hfs
      go_wp2_with fail
      go_ret
      obtain ⟨e1, hfs, e3⟩ := HE.out
      have hb := H3.out.2.2.trans (e3.mono H3.out.2.2.size)
      refine ⟨u7, rfl, ?_, hb⟩
      rw [← hfs]
      exact ⟨e1.1, e1.2.imp id fun ⟨q, cap, cur, h1, h2, h3⟩ => ⟨q, cap, cur, h1, Nat.le_trans H3.out.2.2.size h2, h3⟩⟩
end Go.Proofs.Ytaminpfgkegibaa
/- loamlaw26's same: lists alike. Conditions: lengths. -/
namespace Go.Proofs.Ytaminpfgkegibaa
set_option linter.unusedVariables false
set_option linter.unusedSimpArgs false
open Go.RowKit Go.Maps
set_option maxHeartbeats 4000000
set_option maxRecDepth 100000
theorem cs6 (Q : Exit → Act → World → Prop) (a0 : Act) (w : World) (q r j N c c2 : Nat) (x : Int) (s : ByteArray) (hq : q < w.heap.size) (hr : r < w.heap.size) (p0 : (0 : Int) ≤ (j : Int)) (p1 : (j : Int) < (N : Int)) (p2 : (N : Int) ≤ 100000) (g0 : w.cell? ⟨q, j * 2, none⟩ = some (.int .i64 x)) (g1 : w.cell? ⟨q, j * 2 + 1, none⟩ = some (.string s)) (k0 : w.cell? ⟨r, j * 2, none⟩ = some (.int .i64 x)) (k1 : w.cell? ⟨r, j * 2 + 1, none⟩ = some (.string s)) (hsz : a0.tmps.size = 41) (sl0 : a0.tmps.getD 0 undef = .slice (some ⟨q, 0, none⟩) N c) (sl1 : a0.tmps.getD 1 undef = .slice (some ⟨r, 0, none⟩) N c2) (sl5 : a0.tmps.getD 5 undef = .int .i64 (j : Int))
    (fin : ∀ (vals : Nat → Value) (w1 : World), Below w.heap.size w w1 → (IsV (.bool false)) (vals 23) w1 → Q .normal (putD vals [17, 18, 19, 20, 21, 22, 23, 24, 25, 26, 27, 28, 29, 30, 31, 32, 33, 34, 35, 36, 37, 38, 39, 40] 0 a0) w1) :
    (Code.region 6 (regIn Try.f10 6) true).wp Try.prog Q a0 w := by
  refine region_by (G := fun w w1 => Below w.heap.size w w1) [IsV (.slice (some ⟨q, 0, none⟩) N c),
    IsV (.int .i64 (j : Int)),
    IsV (.pointer (some ⟨q, j * 2, none⟩)),
    IsV (.pointer (some ⟨q, j * 2, none⟩)),
    IsV (.int .i64 x),
    IsV (.slice (some ⟨r, 0, none⟩) N c2),
    IsV (.int .i64 (j : Int)),
    IsV (.pointer (some ⟨r, j * 2, none⟩)),
    IsV (.pointer (some ⟨r, j * 2, none⟩)),
    IsV (.int .i64 x),
    IsV (.bool false),
    IsV (.bool false),
    IsV (.slice (some ⟨q, 0, none⟩) N c),
    IsV (.int .i64 (j : Int)),
    IsV (.pointer (some ⟨q, j * 2, none⟩)),
    IsV (.pointer (some ⟨q, j * 2 + 1, none⟩)),
    IsV (.string s),
    IsV (.slice (some ⟨r, 0, none⟩) N c2),
    IsV (.int .i64 (j : Int)),
    IsV (.pointer (some ⟨r, j * 2, none⟩)),
    IsV (.pointer (some ⟨r, j * 2 + 1, none⟩)),
    IsV (.string s),
    IsV (.bool false),
    IsV (.bool false)]
    [17, 18, 19, 20, 21, 22, 23, 24, 25, 26, 27, 28, 29, 30, 31, 32, 33, 34, 35, 36, 37, 38, 39, 40] (by kernel_rfl) (Gw.drew _) Gw.trans (by rw [hsz]; kernel_rfl) (by kernel_rfl) ?_ ?_ ?_
  · intro f hf
    simp only [List.mem_cons, List.not_mem_nil, or_false] at hf
    rcases hf with rfl | rfl | rfl | rfl | rfl | rfl | rfl | rfl | rfl | rfl | rfl | rfl | rfl | rfl | rfl | rfl | rfl | rfl | rfl | rfl | rfl | rfl | rfl | rfl <;> intro v a b h g <;> first | exact IsV.mono h
  · refine ⟨?_, ?_, ?_, ?_, ?_, ?_, ?_, ?_, ?_, ?_, ?_, ?_, ?_, ?_, ?_, ?_, ?_, ?_, ?_, ?_, ?_, ?_, ?_, ?_, trivial⟩
    · exact owes_mv 0 (by kernel_rfl) (by kernel_rfl) (by kernel_rfl) sl0 (fun _ => rfl)
    · exact owes_mv 5 (by kernel_rfl) (by kernel_rfl) (by kernel_rfl) sl5 (fun _ => rfl)
    · refine owes_v (Go.Op.indexAddr 24 (Go.Operand.tmp 17) (Go.Operand.tmp 18)) 0 [0, 1] (by kernel_rfl) (by kernel_rfl) (by kernel_rfl) rfl fun vals w1 ρ hG hF hρ hcst hfun => ?_
      have e17 : ρ (.tmp 17) = .slice (some ⟨q, 0, none⟩) N c := ((hρ 17).trans (slotJ [0, 1] (by rw [hsz]; decide) (by kernel_rfl))).trans (hF 0 (by decide))
      have e18 : ρ (.tmp 18) = .int .i64 (j : Int) := ((hρ 18).trans (slotJ [0, 1] (by rw [hsz]; decide) (by kernel_rfl))).trans (hF 1 (by decide))
      clear hρ hF hcst hfun sl0 sl1 sl5 fin
      exact opv_val (by go_simp <;> rfl) ⟨gw_self _, rfl⟩
    · refine owes_v (Go.Op.fieldAddr 55 (Go.Operand.tmp 19) 0) 0 [2] (by kernel_rfl) (by kernel_rfl) (by kernel_rfl) rfl fun vals w1 ρ hG hF hρ hcst hfun => ?_
      have e19 : ρ (.tmp 19) = .pointer (some ⟨q, j * 2, none⟩) := ((hρ 19).trans (slotJ [2] (by rw [hsz]; decide) (by kernel_rfl))).trans (hF 2 (by decide))
      clear hρ hF hcst hfun sl0 sl1 sl5 fin
      exact opv_val (by go_simp <;> rfl) ⟨gw_self _, rfl⟩
    · refine owes_v (Go.Op.load 3 (Go.Operand.tmp 20)) 3 [3] (by kernel_rfl) (by kernel_rfl) (by kernel_rfl) rfl fun vals w1 ρ hG hF hρ hcst hfun => ?_
      have e20 : ρ (.tmp 20) = .pointer (some ⟨q, j * 2, none⟩) := ((hρ 20).trans (slotJ [3] (by rw [hsz]; decide) (by kernel_rfl))).trans (hF 3 (by decide))
      have k := (hG.cell (p := ⟨q, j * 2, none⟩) hq).trans g0
      clear hρ hF hcst hfun sl0 sl1 sl5 fin
      exact opv_val (by go_simp <;> rfl) ⟨gw_self _, rfl⟩
    · exact owes_mv 1 (by kernel_rfl) (by kernel_rfl) (by kernel_rfl) sl1 (fun _ => rfl)
    · exact owes_mv 5 (by kernel_rfl) (by kernel_rfl) (by kernel_rfl) sl5 (fun _ => rfl)
    · refine owes_v (Go.Op.indexAddr 34 (Go.Operand.tmp 22) (Go.Operand.tmp 23)) 0 [5, 6] (by kernel_rfl) (by kernel_rfl) (by kernel_rfl) rfl fun vals w1 ρ hG hF hρ hcst hfun => ?_
      have e22 : ρ (.tmp 22) = .slice (some ⟨r, 0, none⟩) N c2 := ((hρ 22).trans (slotJ [5, 6] (by rw [hsz]; decide) (by kernel_rfl))).trans (hF 5 (by decide))
      have e23 : ρ (.tmp 23) = .int .i64 (j : Int) := ((hρ 23).trans (slotJ [5, 6] (by rw [hsz]; decide) (by kernel_rfl))).trans (hF 6 (by decide))
      clear hρ hF hcst hfun sl0 sl1 sl5 fin
      exact opv_val (by go_simp <;> rfl) ⟨gw_self _, rfl⟩
    · refine owes_v (Go.Op.fieldAddr 76 (Go.Operand.tmp 24) 0) 0 [7] (by kernel_rfl) (by kernel_rfl) (by kernel_rfl) rfl fun vals w1 ρ hG hF hρ hcst hfun => ?_
      have e24 : ρ (.tmp 24) = .pointer (some ⟨r, j * 2, none⟩) := ((hρ 24).trans (slotJ [7] (by rw [hsz]; decide) (by kernel_rfl))).trans (hF 7 (by decide))
      clear hρ hF hcst hfun sl0 sl1 sl5 fin
      exact opv_val (by go_simp <;> rfl) ⟨gw_self _, rfl⟩
    · refine owes_v (Go.Op.load 3 (Go.Operand.tmp 25)) 3 [8] (by kernel_rfl) (by kernel_rfl) (by kernel_rfl) rfl fun vals w1 ρ hG hF hρ hcst hfun => ?_
      have e25 : ρ (.tmp 25) = .pointer (some ⟨r, j * 2, none⟩) := ((hρ 25).trans (slotJ [8] (by rw [hsz]; decide) (by kernel_rfl))).trans (hF 8 (by decide))
      have k := (hG.cell (p := ⟨r, j * 2, none⟩) hr).trans k0
      clear hρ hF hcst hfun sl0 sl1 sl5 fin
      exact opv_val (by go_simp <;> rfl) ⟨gw_self _, rfl⟩
    · refine owes_v (Go.Op.binOp Go.BinOp.neq 3 (Go.Operand.tmp 21) (Go.Operand.tmp 26) 3) 4 [4, 9] (by kernel_rfl) (by kernel_rfl) (by kernel_rfl) rfl fun vals w1 ρ hG hF hρ hcst hfun => ?_
      have e21 : ρ (.tmp 21) = .int .i64 x := ((hρ 21).trans (slotJ [4, 9] (by rw [hsz]; decide) (by kernel_rfl))).trans (hF 4 (by decide))
      have e26 : ρ (.tmp 26) = .int .i64 x := ((hρ 26).trans (slotJ [4, 9] (by rw [hsz]; decide) (by kernel_rfl))).trans (hF 9 (by decide))
      clear hρ hF hcst hfun sl0 sl1 sl5 fin
      exact opv_val (by go_simp <;> rfl) ⟨gw_self _, rfl⟩
    · exact owes_mvj 10 27 (by kernel_rfl) (by kernel_rfl) (by kernel_rfl) (by kernel_rfl) (by rw [hsz]; decide) (fun v w h => h)
    · refine owes_vt 11 false (Go.Op.move (Go.Operand.tmp 0)) 24 [] (by kernel_rfl) (by kernel_rfl) (by kernel_rfl) (fun _ _ h => h) (by rw [hsz]; kernel_rfl) (by kernel_rfl) rfl fun vals w1 ρ hG hF hρ hcst hfun => ?_
      have e0 : ρ (.tmp 0) = .slice (some ⟨q, 0, none⟩) N c := ((hρ 0).trans (slotO [] (by kernel_rfl))).trans sl0
      clear hρ hF hcst hfun sl0 sl1 sl5 fin
      exact opv_val (by go_simp <;> rfl) ⟨gw_self _, rfl⟩
    · refine owes_vt 11 false (Go.Op.move (Go.Operand.tmp 5)) 3 [] (by kernel_rfl) (by kernel_rfl) (by kernel_rfl) (fun _ _ h => h) (by rw [hsz]; kernel_rfl) (by kernel_rfl) rfl fun vals w1 ρ hG hF hρ hcst hfun => ?_
      have e5 : ρ (.tmp 5) = .int .i64 (j : Int) := ((hρ 5).trans (slotO [] (by kernel_rfl))).trans sl5
      clear hρ hF hcst hfun sl0 sl1 sl5 fin
      exact opv_val (by go_simp <;> rfl) ⟨gw_self _, rfl⟩
    · refine owes_vt 11 false (Go.Op.indexAddr 24 (Go.Operand.tmp 29) (Go.Operand.tmp 30)) 0 [12, 13] (by kernel_rfl) (by kernel_rfl) (by kernel_rfl) (fun _ _ h => h) (by rw [hsz]; kernel_rfl) (by kernel_rfl) rfl fun vals w1 ρ hG hF hρ hcst hfun => ?_
      have e29 : ρ (.tmp 29) = .slice (some ⟨q, 0, none⟩) N c := ((hρ 29).trans (slotJ [12, 13] (by rw [hsz]; decide) (by kernel_rfl))).trans (hF 12 (by decide))
      have e30 : ρ (.tmp 30) = .int .i64 (j : Int) := ((hρ 30).trans (slotJ [12, 13] (by rw [hsz]; decide) (by kernel_rfl))).trans (hF 13 (by decide))
      clear hρ hF hcst hfun sl0 sl1 sl5 fin
      exact opv_val (by go_simp <;> rfl) ⟨gw_self _, rfl⟩
    · refine owes_vt 11 false (Go.Op.fieldAddr 55 (Go.Operand.tmp 31) 1) 0 [14] (by kernel_rfl) (by kernel_rfl) (by kernel_rfl) (fun _ _ h => h) (by rw [hsz]; kernel_rfl) (by kernel_rfl) rfl fun vals w1 ρ hG hF hρ hcst hfun => ?_
      have e31 : ρ (.tmp 31) = .pointer (some ⟨q, j * 2, none⟩) := ((hρ 31).trans (slotJ [14] (by rw [hsz]; decide) (by kernel_rfl))).trans (hF 14 (by decide))
      clear hρ hF hcst hfun sl0 sl1 sl5 fin
      exact opv_val (by go_simp <;> rfl) ⟨gw_self _, rfl⟩
    · refine owes_vt 11 false (Go.Op.load 9 (Go.Operand.tmp 32)) 9 [15] (by kernel_rfl) (by kernel_rfl) (by kernel_rfl) (fun _ _ h => h) (by rw [hsz]; kernel_rfl) (by kernel_rfl) rfl fun vals w1 ρ hG hF hρ hcst hfun => ?_
      have e32 : ρ (.tmp 32) = .pointer (some ⟨q, j * 2 + 1, none⟩) := ((hρ 32).trans (slotJ [15] (by rw [hsz]; decide) (by kernel_rfl))).trans (hF 15 (by decide))
      have k := (hG.cell (p := ⟨q, j * 2 + 1, none⟩) hq).trans g1
      clear hρ hF hcst hfun sl0 sl1 sl5 fin
      exact opv_val (by go_simp <;> rfl) ⟨gw_self _, rfl⟩
    · refine owes_vt 11 false (Go.Op.move (Go.Operand.tmp 1)) 34 [] (by kernel_rfl) (by kernel_rfl) (by kernel_rfl) (fun _ _ h => h) (by rw [hsz]; kernel_rfl) (by kernel_rfl) rfl fun vals w1 ρ hG hF hρ hcst hfun => ?_
      have e1 : ρ (.tmp 1) = .slice (some ⟨r, 0, none⟩) N c2 := ((hρ 1).trans (slotO [] (by kernel_rfl))).trans sl1
      clear hρ hF hcst hfun sl0 sl1 sl5 fin
      exact opv_val (by go_simp <;> rfl) ⟨gw_self _, rfl⟩
    · refine owes_vt 11 false (Go.Op.move (Go.Operand.tmp 5)) 3 [] (by kernel_rfl) (by kernel_rfl) (by kernel_rfl) (fun _ _ h => h) (by rw [hsz]; kernel_rfl) (by kernel_rfl) rfl fun vals w1 ρ hG hF hρ hcst hfun => ?_
      have e5 : ρ (.tmp 5) = .int .i64 (j : Int) := ((hρ 5).trans (slotO [] (by kernel_rfl))).trans sl5
      clear hρ hF hcst hfun sl0 sl1 sl5 fin
      exact opv_val (by go_simp <;> rfl) ⟨gw_self _, rfl⟩
    · refine owes_vt 11 false (Go.Op.indexAddr 34 (Go.Operand.tmp 34) (Go.Operand.tmp 35)) 0 [17, 18] (by kernel_rfl) (by kernel_rfl) (by kernel_rfl) (fun _ _ h => h) (by rw [hsz]; kernel_rfl) (by kernel_rfl) rfl fun vals w1 ρ hG hF hρ hcst hfun => ?_
      have e34 : ρ (.tmp 34) = .slice (some ⟨r, 0, none⟩) N c2 := ((hρ 34).trans (slotJ [17, 18] (by rw [hsz]; decide) (by kernel_rfl))).trans (hF 17 (by decide))
      have e35 : ρ (.tmp 35) = .int .i64 (j : Int) := ((hρ 35).trans (slotJ [17, 18] (by rw [hsz]; decide) (by kernel_rfl))).trans (hF 18 (by decide))
      clear hρ hF hcst hfun sl0 sl1 sl5 fin
      exact opv_val (by go_simp <;> rfl) ⟨gw_self _, rfl⟩
    · refine owes_vt 11 false (Go.Op.fieldAddr 76 (Go.Operand.tmp 36) 1) 0 [19] (by kernel_rfl) (by kernel_rfl) (by kernel_rfl) (fun _ _ h => h) (by rw [hsz]; kernel_rfl) (by kernel_rfl) rfl fun vals w1 ρ hG hF hρ hcst hfun => ?_
      have e36 : ρ (.tmp 36) = .pointer (some ⟨r, j * 2, none⟩) := ((hρ 36).trans (slotJ [19] (by rw [hsz]; decide) (by kernel_rfl))).trans (hF 19 (by decide))
      clear hρ hF hcst hfun sl0 sl1 sl5 fin
      exact opv_val (by go_simp <;> rfl) ⟨gw_self _, rfl⟩
    · refine owes_vt 11 false (Go.Op.load 9 (Go.Operand.tmp 37)) 9 [20] (by kernel_rfl) (by kernel_rfl) (by kernel_rfl) (fun _ _ h => h) (by rw [hsz]; kernel_rfl) (by kernel_rfl) rfl fun vals w1 ρ hG hF hρ hcst hfun => ?_
      have e37 : ρ (.tmp 37) = .pointer (some ⟨r, j * 2 + 1, none⟩) := ((hρ 37).trans (slotJ [20] (by rw [hsz]; decide) (by kernel_rfl))).trans (hF 20 (by decide))
      have k := (hG.cell (p := ⟨r, j * 2 + 1, none⟩) hr).trans k1
      clear hρ hF hcst hfun sl0 sl1 sl5 fin
      exact opv_val (by go_simp <;> rfl) ⟨gw_self _, rfl⟩
    · refine owes_vt 11 false (Go.Op.binOp Go.BinOp.neq 9 (Go.Operand.tmp 33) (Go.Operand.tmp 38) 9) 4 [16, 21] (by kernel_rfl) (by kernel_rfl) (by kernel_rfl) (fun _ _ h => h) (by rw [hsz]; kernel_rfl) (by kernel_rfl) rfl fun vals w1 ρ hG hF hρ hcst hfun => ?_
      have e33 : ρ (.tmp 33) = .string s := ((hρ 33).trans (slotJ [16, 21] (by rw [hsz]; decide) (by kernel_rfl))).trans (hF 16 (by decide))
      have e38 : ρ (.tmp 38) = .string s := ((hρ 38).trans (slotJ [16, 21] (by rw [hsz]; decide) (by kernel_rfl))).trans (hF 21 (by decide))
      clear hρ hF hcst hfun sl0 sl1 sl5 fin
      exact opv_val (by go_simp <;> rfl) ⟨gw_self _, rfl⟩
    · refine owes_v (Go.Op.pick (Go.Operand.tmp 28) (Go.Operand.const (Go.Value.bool true)) (Go.Operand.tmp 39)) 4 [11, 22] (by kernel_rfl) (by kernel_rfl) (by kernel_rfl) rfl fun vals w1 ρ hG hF hρ hcst hfun => ?_
      have e28 : ρ (.tmp 28) = .bool false := ((hρ 28).trans (slotJ [11, 22] (by rw [hsz]; decide) (by kernel_rfl))).trans (hF 11 (by decide))
      have e39 : ρ (.tmp 39) = .bool false := ((hρ 39).trans (slotJ [11, 22] (by rw [hsz]; decide) (by kernel_rfl))).trans (hF 22 (by decide))
      clear hρ hF hfun sl0 sl1 sl5 fin
      exact opv_val (by go_simp <;> rfl) ⟨gw_self _, rfl⟩
  · intro vals w1 hG hF
    exact fin vals w1 hG (hF 23 (by decide +kernel))
theorem same_c (w : World) (B1 B2 : Nat) (v v2 : Value) (l : List (Nat × ByteArray)) (h : FR w B1 v l) (h2 : rFR w B2 v2 l) (hl : l.length ≤ 100000) : Calls Try.prog 10 #[v, v2] w (RetP (.bool true) w) := by
  obtain ⟨A, c, rfl, hc, hc2⟩ := h.slice_
  obtain ⟨A2, c2, rfl, hd, hd2⟩ := h2.slice_
  obtain ⟨N, hN⟩ : ∃ N, N = l.length := ⟨_, rfl⟩
  have HX := Lib.hid (And.intro h (And.intro h2 hN))
  rw [← hN] at hl ⊢
  have NI : (N : Int) ≤ 100000 := by omega
  clear h h2 hN hc hc2 hd hd2
  go_enter Try.func10, Try.ntmps10
  go_wp2_with fail
  go_loopw [5] (fun x W => ∃ k : Nat, k ≤ N ∧ x = .int .i64 k ∧ Below w.heap.size w W) (fun x _ => N - (Go.RowKit.intOf x).toNat)
  case atStart => exact ⟨0, by omega, rfl, Below.refl _ _⟩
  case round =>
    obtain ⟨k, hk, rfl, hB⟩ := hrel
    have HB := Lib.hid hB
    by_cases hlt : k < N
    · have p1 : (0 : Int) ≤ (k : Int) := by omega
      have p2 : (k : Int) < (N : Int) := by omega
      have hkl : k < l.length := by rw [← HX.out.2.2]; exact hlt
      have e1 := HX.out.1.below hB
      have e2 := HX.out.2.1.below hB
      obtain ⟨q, rfl, hq1, hq2, g0, g1⟩ := e1.at_ k hkl
      obtain ⟨r, rfl, hr1, hr2, k0, k1⟩ := e2.at_ k hkl
      obtain ⟨x, hx⟩ : ∃ x, x = (l[k].1 : Int) := ⟨_, rfl⟩
      obtain ⟨s, hs⟩ : ∃ x, x = l[k].2 := ⟨_, rfl⟩
      rw [← hx] at g0 k0
      rw [← hs] at g1 k1
      have HS := Lib.hid (fun Q a0 => cs6 Q a0 wr q r k N c c2 x s hq2 hr2 p1 p2 NI g0 g1 k0 k1)
      clear hx hs g0 g1 k0 k1 e1 e2 hq1 hr1 hq2 hr2 hkl
      go_wp2_with fail
      refine HS.out _ _ rfl rfl rfl rfl ?_
      intro vals w4 hG h40
      unfold IsV at h40
      simp only [putD, Act.put, List.setIfInBounds_toArray, List.set_cons_zero, List.set_cons_succ, h40]
      have HB4 := Lib.hid (hB.trans (hG.mono hB.size))
      clear h40 hG HS HB hB
      go_wp2_with fail
      go_roundw
      case rel => exact ⟨k + 1, by omega, by go_num, HB4.out⟩
      case measure => simp [Go.RowKit.intOf]; omega
    · have p3 : ¬ (k : Int) < (N : Int) := by omega
      clear hB
      go_wp2_with fail
      go_ret
      exact ⟨rfl, HB.out⟩
end Go.Proofs.Ytaminpfgkegibaa
/- check.Image at three words with no Roots. Conditions: the first two words. -/
namespace Go.Proofs.Ytaminpfgkegibaa
set_option linter.unusedVariables false
set_option linter.unusedSimpArgs false
open Go.RowKit Go.Maps
set_option maxHeartbeats 4000000
set_option maxRecDepth 100000
theorem ans_cast {P : Program} {f : FuncId} {args args' : Array Value} {w : World} {v v' : Value} (h : Ans P f args w v) (e1 : args = args') (e2 : v = v') : Ans P f args' w v' := e1 ▸ e2 ▸ h
theorem of_ansk {P : Program} {f : FuncId} {args : Array Value} {v : Value} {w : World} (h : Ans P f args w v) : Calls P f args w fun e w2 => ∃ u, e = .returned u ∧ Below w.heap.size w w2 ∧ IsV v u w2 :=
  h.mono fun _ _ h => ⟨_, h.1, h.2.below _, rfl⟩
theorem fk0 (w : World) : Ans Try.prog 45 #[.int .u64 196608, .int .i64 0, .int .i64 16] w (.int .u64 0) := ans_cast (field_c 196608 0 16 w) (by kernel_rfl) (by kernel_rfl)
theorem fk1 (w : World) : Ans Try.prog 45 #[.int .u64 196608, .int .i64 16, .int .i64 32] w (.int .u64 3) := ans_cast (field_c 196608 16 32 w) (by kernel_rfl) (by kernel_rfl)
theorem fk2 (w : World) : Ans Try.prog 45 #[.int .u64 196608, .int .i64 48, .int .i64 16] w (.int .u64 0) := ans_cast (field_c 196608 48 16 w) (by kernel_rfl) (by kernel_rfl)
theorem ckbase_c (w : World) : Calls Try.prog 23 #[.int .i64 0] w (RetP (.int .i64 2) w) := by
  go_enter Try.func23, Try.ntmps23
  go_wp2_with fail
  go_ret
  exact ⟨rfl, Below.refl _ _⟩
theorem sz3 (Q : Exit → Act → World → Prop) (a0 : Act) (w : World) (q c : Nat) (hq : q < w.heap.size) (g0 : w.cell? ⟨q, 1, none⟩ = some (.int .u64 196608)) (hsz : a0.tmps.size = 50) (sl0 : a0.tmps.getD 0 undef = .slice (some ⟨q, 0, none⟩) 3 c)
    (fin : ∀ (vals : Nat → Value) (w1 : World), Below w.heap.size w w1 → (IsV (.int .u64 0)) (vals 12) w1 → (IsV (.int .u64 3)) (vals 13) w1 → (IsV (.int .u64 0)) (vals 14) w1 → Q .normal (putD vals [15, 16, 17, 18, 19, 20, 21, 22, 23, 24, 25, 26, 4, 5, 6] 0 a0) w1) :
    (Code.region 3 (regIn Try.f20 3) true).wp Try.prog Q a0 w := by
  refine region_by (G := fun w w1 => Below w.heap.size w w1) [IsV (.slice (some ⟨q, 0, none⟩) 3 c),
    IsV (.pointer (some ⟨q, 1, none⟩)),
    IsV (.int .u64 196608),
    IsV (.int .u64 0),
    IsV (.slice (some ⟨q, 0, none⟩) 3 c),
    IsV (.pointer (some ⟨q, 1, none⟩)),
    IsV (.int .u64 196608),
    IsV (.int .u64 3),
    IsV (.slice (some ⟨q, 0, none⟩) 3 c),
    IsV (.pointer (some ⟨q, 1, none⟩)),
    IsV (.int .u64 196608),
    IsV (.int .u64 0),
    IsV (.int .u64 0),
    IsV (.int .u64 3),
    IsV (.int .u64 0)]
    [15, 16, 17, 18, 19, 20, 21, 22, 23, 24, 25, 26, 4, 5, 6] (by kernel_rfl) (Gw.drew _) Gw.trans (by rw [hsz]; kernel_rfl) (by kernel_rfl) ?_ ?_ ?_
  · intro f hf
    simp only [List.mem_cons, List.not_mem_nil, or_false] at hf
    rcases hf with rfl | rfl | rfl | rfl | rfl | rfl | rfl | rfl | rfl | rfl | rfl | rfl | rfl | rfl | rfl <;> intro v a b h g <;> first | exact IsV.mono h
  · refine ⟨?_, ?_, ?_, ?_, ?_, ?_, ?_, ?_, ?_, ?_, ?_, ?_, ?_, ?_, ?_, trivial⟩
    · exact owes_mv 0 (by kernel_rfl) (by kernel_rfl) (by kernel_rfl) sl0 (fun _ => rfl)
    · refine owes_v (Go.Op.indexAddr 22 (Go.Operand.tmp 15) (Go.Operand.const (Go.Value.int Go.IntKind.i64 1))) 0 [0] (by kernel_rfl) (by kernel_rfl) (by kernel_rfl) rfl fun vals w1 ρ hG hF hρ hcst hfun => ?_
      have e15 : ρ (.tmp 15) = .slice (some ⟨q, 0, none⟩) 3 c := ((hρ 15).trans (slotJ [0] (by rw [hsz]; decide) (by kernel_rfl))).trans (hF 0 (by decide))
      clear hρ hF hfun sl0 fin
      exact opv_val (by go_simp <;> rfl) ⟨gw_self _, rfl⟩
    · refine owes_v (Go.Op.load 57 (Go.Operand.tmp 16)) 57 [1] (by kernel_rfl) (by kernel_rfl) (by kernel_rfl) rfl fun vals w1 ρ hG hF hρ hcst hfun => ?_
      have e16 : ρ (.tmp 16) = .pointer (some ⟨q, 1, none⟩) := ((hρ 16).trans (slotJ [1] (by rw [hsz]; decide) (by kernel_rfl))).trans (hF 1 (by decide))
      have k := (hG.cell (p := ⟨q, 1, none⟩) hq).trans g0
      clear hρ hF hcst hfun sl0 fin
      exact opv_val (by go_simp <;> rfl) ⟨gw_self _, rfl⟩
    · refine owes_v (Go.Op.call { callee := Go.Callee.value (Go.Operand.func 45), args := #[Go.Operand.tmp 17, Go.Operand.const (Go.Value.int Go.IntKind.i64 0), Go.Operand.const (Go.Value.int Go.IntKind.i64 16)], argTypes := #[57, 3, 3] }) 57 [2] (by kernel_rfl) (by kernel_rfl) (by kernel_rfl) rfl fun vals w1 ρ hG hF hρ hcst hfun => ?_
      have e17 : ρ (.tmp 17) = .int .u64 196608 := ((hρ 17).trans (slotJ [2] (by rw [hsz]; decide) (by kernel_rfl))).trans (hF 2 (by decide))
      clear hρ hF sl0 fin
      exact opv_enter (by go_simp <;> rfl) (of_ansk (fk0 w1))
    · exact owes_mv 0 (by kernel_rfl) (by kernel_rfl) (by kernel_rfl) sl0 (fun _ => rfl)
    · refine owes_v (Go.Op.indexAddr 22 (Go.Operand.tmp 19) (Go.Operand.const (Go.Value.int Go.IntKind.i64 1))) 0 [4] (by kernel_rfl) (by kernel_rfl) (by kernel_rfl) rfl fun vals w1 ρ hG hF hρ hcst hfun => ?_
      have e19 : ρ (.tmp 19) = .slice (some ⟨q, 0, none⟩) 3 c := ((hρ 19).trans (slotJ [4] (by rw [hsz]; decide) (by kernel_rfl))).trans (hF 4 (by decide))
      clear hρ hF hfun sl0 fin
      exact opv_val (by go_simp <;> rfl) ⟨gw_self _, rfl⟩
    · refine owes_v (Go.Op.load 57 (Go.Operand.tmp 20)) 57 [5] (by kernel_rfl) (by kernel_rfl) (by kernel_rfl) rfl fun vals w1 ρ hG hF hρ hcst hfun => ?_
      have e20 : ρ (.tmp 20) = .pointer (some ⟨q, 1, none⟩) := ((hρ 20).trans (slotJ [5] (by rw [hsz]; decide) (by kernel_rfl))).trans (hF 5 (by decide))
      have k := (hG.cell (p := ⟨q, 1, none⟩) hq).trans g0
      clear hρ hF hcst hfun sl0 fin
      exact opv_val (by go_simp <;> rfl) ⟨gw_self _, rfl⟩
    · refine owes_v (Go.Op.call { callee := Go.Callee.value (Go.Operand.func 45), args := #[Go.Operand.tmp 21, Go.Operand.const (Go.Value.int Go.IntKind.i64 16), Go.Operand.const (Go.Value.int Go.IntKind.i64 32)], argTypes := #[57, 3, 3] }) 57 [6] (by kernel_rfl) (by kernel_rfl) (by kernel_rfl) rfl fun vals w1 ρ hG hF hρ hcst hfun => ?_
      have e21 : ρ (.tmp 21) = .int .u64 196608 := ((hρ 21).trans (slotJ [6] (by rw [hsz]; decide) (by kernel_rfl))).trans (hF 6 (by decide))
      clear hρ hF sl0 fin
      exact opv_enter (by go_simp <;> rfl) (of_ansk (fk1 w1))
    · exact owes_mv 0 (by kernel_rfl) (by kernel_rfl) (by kernel_rfl) sl0 (fun _ => rfl)
    · refine owes_v (Go.Op.indexAddr 22 (Go.Operand.tmp 23) (Go.Operand.const (Go.Value.int Go.IntKind.i64 1))) 0 [8] (by kernel_rfl) (by kernel_rfl) (by kernel_rfl) rfl fun vals w1 ρ hG hF hρ hcst hfun => ?_
      have e23 : ρ (.tmp 23) = .slice (some ⟨q, 0, none⟩) 3 c := ((hρ 23).trans (slotJ [8] (by rw [hsz]; decide) (by kernel_rfl))).trans (hF 8 (by decide))
      clear hρ hF hfun sl0 fin
      exact opv_val (by go_simp <;> rfl) ⟨gw_self _, rfl⟩
    · refine owes_v (Go.Op.load 57 (Go.Operand.tmp 24)) 57 [9] (by kernel_rfl) (by kernel_rfl) (by kernel_rfl) rfl fun vals w1 ρ hG hF hρ hcst hfun => ?_
      have e24 : ρ (.tmp 24) = .pointer (some ⟨q, 1, none⟩) := ((hρ 24).trans (slotJ [9] (by rw [hsz]; decide) (by kernel_rfl))).trans (hF 9 (by decide))
      have k := (hG.cell (p := ⟨q, 1, none⟩) hq).trans g0
      clear hρ hF hcst hfun sl0 fin
      exact opv_val (by go_simp <;> rfl) ⟨gw_self _, rfl⟩
    · refine owes_v (Go.Op.call { callee := Go.Callee.value (Go.Operand.func 45), args := #[Go.Operand.tmp 25, Go.Operand.const (Go.Value.int Go.IntKind.i64 48), Go.Operand.const (Go.Value.int Go.IntKind.i64 16)], argTypes := #[57, 3, 3] }) 57 [10] (by kernel_rfl) (by kernel_rfl) (by kernel_rfl) rfl fun vals w1 ρ hG hF hρ hcst hfun => ?_
      have e25 : ρ (.tmp 25) = .int .u64 196608 := ((hρ 25).trans (slotJ [10] (by rw [hsz]; decide) (by kernel_rfl))).trans (hF 10 (by decide))
      clear hρ hF sl0 fin
      exact opv_enter (by go_simp <;> rfl) (of_ansk (fk2 w1))
    · exact owes_mvj 3 18 (by kernel_rfl) (by kernel_rfl) (by kernel_rfl) (by kernel_rfl) (by rw [hsz]; decide) (fun v w h => h)
    · exact owes_mvj 7 22 (by kernel_rfl) (by kernel_rfl) (by kernel_rfl) (by kernel_rfl) (by rw [hsz]; decide) (fun v w h => h)
    · exact owes_mvj 11 26 (by kernel_rfl) (by kernel_rfl) (by kernel_rfl) (by kernel_rfl) (by rw [hsz]; decide) (fun v w h => h)
  · intro vals w1 hG hF
    exact fin vals w1 hG (hF 12 (by decide +kernel)) (hF 13 (by decide +kernel)) (hF 14 (by decide +kernel))
theorem sized_c (w : World) (q c : Nat) (hq : q < w.heap.size) (g0 : w.cell? ⟨q, 1, none⟩ = some (.int .u64 196608)) : Calls Try.prog 20 #[.slice (some ⟨q, 0, none⟩) 3 c] w (RetP (.tuple #[.int .i64 0, .bool true]) w) := by
  have HB := Lib.hid ckbase_c
  go_enter Try.func20, Try.ntmps20
  go_wp2_with fail
  refine sz3 _ _ _ q c hq g0 rfl ?_ ?_
  · rfl
  intro vals w1 hG h4 h5 h6
  unfold IsV at h4 h5 h6
  simp only [putD, Act.put, List.setIfInBounds_toArray, List.set_cons_zero, List.set_cons_succ, h4, h5, h6]
  have H1 := Lib.hid hG
  clear hG h4 h5 h6 g0 hq
  go_wp2_with fail
  refine Calls.mono (HB.out w1) ?_
  rintro r w2 ⟨rfl, b2⟩
  have H2 := Lib.hid b2
  clear b2
  go_wp2_with fail
  go_ret2
  exact ⟨rfl, H1.out.trans (H2.out.mono H1.out.size)⟩
theorem sized0_c (w : World) : Calls Try.prog 20 #[.slice none 0 0] w (RetP (.tuple #[.int .i64 0, .bool false]) w) := by
  go_enter Try.func20, Try.ntmps20
  go_wp2_with fail
  go_ret2
  exact ⟨rfl, Below.refl _ _⟩
theorem ckroots_c (w : World) (Xb : Nat) : Calls Try.prog 25 #[.pointer (some ⟨Xb, 0, none⟩), .int .i64 0] w (RetP (.tuple #[]) w) := by
  go_enter Try.func25, Try.ntmps25
  go_wp2_with fail
  go_loopw [13] (fun x W => x = .int .i64 0 ∧ W = w) (fun _ _ => 0)
  case atStart => exact ⟨rfl, rfl⟩
  case round =>
    obtain ⟨rfl, rfl⟩ := hrel
    go_wp2_with fail
    go_end0
    exact ⟨rfl, Below.refl _ _⟩
theorem image3_c (w : World) (q c : Nat) (x : BitVec 64) (hr : Rd u64v w w.heap.size (some ⟨q, 0, none⟩) [1296125772#64, 196608#64, x]) (F : List Nat × Option Nat) (hF : foundN [1296125772#64, 196608#64, x] 3 4 2 = F) (hq : ∀ y, F.2 = some y → okU ([1296125772#64, 196608#64, x].getD y 0#64) = false) (hl : (badF F.2 ++ allE [1296125772#64, 196608#64, x] F.1 F.1).length ≤ 5000) :
    Calls Try.prog 8 #[.slice (some ⟨q, 0, none⟩) 3 c] w (fun r w' => ∃ lv, r = .returned lv ∧ FR w' w.heap.size lv (badF F.2 ++ allE [1296125772#64, 196608#64, x] F.1 F.1) ∧ Below w.heap.size w w') := by
  obtain ⟨ws, hws⟩ : ∃ ws, ws = [1296125772#64, 196608#64, x] := ⟨_, rfl⟩
  have hn : ws.length = 3 := by rw [hws]; rfl
  obtain ⟨ad, had, hql, g0⟩ := hr 0 (Nat.zero_lt_succ _)
  injection had with had
  subst had
  obtain ⟨ad, had, _, g1⟩ := hr 1 (Nat.succ_lt_succ (Nat.zero_lt_succ _))
  injection had with had
  subst had
  rw [add_off] at g0 g1
  replace g0 : w.cell? ⟨q, 0, none⟩ = some (.int .u64 1296125772) := g0
  replace g1 : w.cell? ⟨q, 1, none⟩ = some (.int .u64 196608) := g1
  have hql : q < w.heap.size := hql
  rw [← hws] at hr hF hq hl ⊢
  have HSz := Lib.hid (fun W (h : Below w.heap.size w W) => sized_c W q c (Nat.lt_of_lt_of_le hql h.size) ((h.cell (p := ⟨q, 1, none⟩) hql).trans g1))
  have HOf := Lib.hid (fun W (h : Below w.heap.size w W) => of_in W (some ⟨q, 0, none⟩) c ws ((hr.below h).more h.size) (by omega))
  have HX := Lib.hid (And.intro hF (And.intro hq (And.intro hl hn)))
  have HB := Lib.hid ckbase_c
  have HR := Lib.hid ckroots_c
  rw [hn] at HOf
  clear hr hF hq hl hn hws g1
  go_enter Try.func8, Try.ntmps8
  go_wp2_with fail
  refine Calls.mono (HSz.out w (Below.refl _ _)) ?_
  rintro r w1 ⟨rfl, b1⟩
  have H1 := Lib.hid b1
  clear b1 g0
  go_wp2_with fail
  refine Calls.mono (HOf.out w1 H1.out) ?_
  rintro r w2 ⟨g, v, rfl, hm, b2⟩
  have H2 := Lib.hid (And.intro hm (And.intro (H1.out.trans (b2.mono H1.out.size)) b2.size))
  clear hm b2
  go_wp2_with fail
  refine Calls.mono (HB.out w2) ?_
  rintro r w3 ⟨rfl, b3⟩
  have HB3 := Lib.hid b3
  clear b3
  go_wp2_with fail
  have b3 := HB3.out
  obtain ⟨s, hs⟩ : ∃ s, s = w3.heap.size := ⟨_, rfl⟩
  obtain ⟨w4, hw4⟩ : ∃ w4, w4 = w3.alloc (.cells #[.pointer (some ⟨g, 0, none⟩), .int .i64 2, .int .i64 3, .int .i64 3] 67) := ⟨_, rfl⟩
  have hbk : Bk w4 s 67 #[.pointer (some ⟨g, 0, none⟩), .int .i64 2, .int .i64 3, .int .i64 3] := by rw [hw4, hs]; exact Bk.new w3 _ _
  have b34 : Below w3.heap.size w3 w4 := by rw [hw4]; exact Gw.alloc w3 _
  have hmm := H2.out.1.below b3
  have hsp : SpAt w4 w1.heap.size s g v ws 2 3 3 := by
    have hlt := hmm.blk.lt
    exact ⟨hmm.below b34, hbk, by omega, fun h => by have := (hmm.row.lt _ h).2; omega, by have := H2.out.2.2; have := b3.size; omega, by decide, by decide, by rw [HX.out.2.2.2]; decide⟩
  have b04 : Below w.heap.size w w4 := (H2.out.2.1.trans (b3.mono H2.out.2.1.size)).trans (b34.mono (by have := H2.out.2.1.size; have := b3.size; omega))
  have HLk := Lib.hid (look_c w4 hsp (by rw [HX.out.2.2.2]; decide) F HX.out.1 HX.out.2.1)
  have H4 := Lib.hid (And.intro hsp b04)
  rw [← hw4, ← hs]
  clear b3 H2 H1 hw4 hbk b34 hmm hsp b04 hs
  refine Calls.mono HLk.out ?_
  rintro r w5 ⟨Xb, mb, rv, lv, rfl, h5, b5⟩
  have hpg : ∀ a ∈ F.1, 2 ≤ a ∧ a < 3 ∧ goodX (ws.getD a 0#64) (3 - a) = true := fun a ha => found_good ws 3 4 2 a (by rw [HX.out.1]; exact ha)
  have hpl : F.1.length ≤ 8192 := by
    have h2 := found_len ws 3 4 2
    rw [HX.out.1] at h2
    omega
  have HO := Lib.hid (lkobj_c w5 (wB := w4) (Bs := w1.heap.size) (s := s) (g := g) (v := v) (b := 2) (t := 3) (e := 3) ⟨rfl, H4.out.1⟩ b5 h5 HX.out.2.2.1 (by rw [HX.out.2.2.2]; decide) (by rw [HX.out.2.2.2]; decide) hpg hpl)
  clear h5 b5 hpg hpl
  go_wp2_with fail
  refine Calls.mono HO.out ?_
  rintro r w6 ⟨rfl, lv2, h6, _, _, b6⟩
  have H6 := Lib.hid (And.intro h6 b6)
  clear h6 b6
  go_wp2_with fail
  refine Calls.mono (HR.out w6 Xb) ?_
  rintro r w7 ⟨rfl, b7⟩
  have h7 := H6.out.1.below b7
  have b47 := H6.out.2.trans (b7.mono H6.out.2.size)
  obtain ⟨c0, c1, c2, c3⟩ := h7.four
  have hXl := h7.blk.lt
  obtain ⟨A, cc, e0, _⟩ := h7.fr.slice_
  obtain ⟨N, hN⟩ : ∃ N, N = (badF F.2 ++ allE ws F.1 F.1).length := ⟨_, rfl⟩
  rw [← hN] at e0
  subst e0
  have H7 := Lib.hid (And.intro h7.fr (And.intro (H4.out.2.trans (b47.mono H4.out.2.size)) (And.intro hN (show 0 + (badF F.2 ++ allE ws F.1 F.1).length ≤ 100000 by have := HX.out.2.2.1; omega))))
  clear h7 b7 b47 hN
  go_wp2_with (at_builtin; refine wp_appF rfl (.tmp 59) (.tmp 63) rfl rfl (FR.nil _ w.heap.size) A N cc _ rfl H7.out.2.2.1 H7.out.1.rdf H7.out.2.2.2 H7.out.2.1.size ?_; intro v8 w8 ho8 hb8 hg8 hj8; have H8 := Lib.hid (And.intro ho8 hb8); clear ho8 hb8 hg8 hj8)
  go_ret
  exact ⟨v8, rfl, H8.out.1, H7.out.2.1.trans H8.out.2⟩
end Go.Proofs.Ytaminpfgkegibaa
/- loamlaw26's known. No conditions. -/
namespace Go.Proofs.Ytaminpfgkegibaa
set_option linter.unusedVariables false
set_option linter.unusedSimpArgs false
open Go.RowKit Go.Maps
set_option maxHeartbeats 4000000
set_option maxRecDepth 100000
def magicS : ByteArray := ⟨#[109, 97, 103, 105, 99]⟩
def sizeS : ByteArray := ⟨#[115, 105, 122, 101]⟩
/-- A call that gives findings. -/
def FiP (l : List (Nat × ByteArray)) (w : World) (r : Ending) (w' : World) : Prop := ∃ lv, r = .returned lv ∧ FR w' w.heap.size lv l ∧ Below w.heap.size w w'
theorem imgA_c (w : World) (q c : Nat) (hr : Rd u64v w w.heap.size (some ⟨q, 0, none⟩) [1296125772#64, 196608#64, 9223372036854775808#64]) : Calls Try.prog 8 #[.slice (some ⟨q, 0, none⟩) 3 c] w (FiP [] w) :=
  (image3_c w q c 9223372036854775808#64 hr ([2], none) (by decide +kernel) (fun y h => by cases h) (by decide +kernel)).mono fun r w' ⟨lv, h1, h2, h3⟩ => ⟨lv, h1, (show badF none ++ allE [1296125772#64, 196608#64, 9223372036854775808#64] [2] [2] = [] from by kernel_rfl) ▸ h2, h3⟩
theorem imgB_c (w : World) (q c : Nat) (hr : Rd u64v w w.heap.size (some ⟨q, 0, none⟩) [1296125772#64, 196608#64, 5#64]) : Calls Try.prog 8 #[.slice (some ⟨q, 0, none⟩) 3 c] w (FiP [(2, headS)] w) :=
  (image3_c w q c 5#64 hr ([], some 2) (by decide +kernel) (fun y h => by injection h with h; subst h; decide +kernel) (by decide +kernel)).mono fun r w' ⟨lv, h1, h2, h3⟩ => ⟨lv, h1, (show badF (some 2) ++ allE [1296125772#64, 196608#64, 5#64] [] [] = [(2, headS)] from rfl) ▸ h2, h3⟩
theorem fr_some {w : World} {B : Nat} {v : Value} {p : Nat × ByteArray} {l : List (Nat × ByteArray)} {n : Nat} (h : FR w B v (p :: l)) (hn : n = l.length + 1) : ∃ q c, v = .slice (some ⟨q, 0, none⟩) n c := by
  rcases h.form with ⟨_, h⟩ | ⟨q, c, e, _⟩
  · cases h
  · exact ⟨q, c, by rw [e, hn]; rfl⟩
theorem imgN_c (w : World) : Calls Try.prog 8 #[.slice none 0 0] w (FiP [(0, magicS), (1, sizeS)] w) := by
  have HSz := Lib.hid sized0_c
  go_enter Try.func8, Try.ntmps8
  have HF := Lib.hid (fun v W (h : FR W w.heap.size v ([] ++ [(0, magicS)])) => fr_some (n := 1) h rfl)
  go_wp2_with (at_builtin; refine wp_appF rfl (.tmp 18) (.tmp 20) rfl rfl (FR.nil _ w.heap.size) (some ⟨w.heap.size, 0, none⟩) 1 1 [(0, magicS)] rfl rfl (rdF_new w 0 magicS) (by decide) (Gw.alloc w _).size ?_; intro v1 w1 ho1 hb1 hg1 hj1; have H1 := Lib.hid (And.intro ho1 ((Gw.alloc w _).trans hb1)); clear hb1 hg1 hj1; obtain ⟨q1, c1, e1⟩ := HF.out _ _ ho1; subst e1; clear ho1)
  refine Calls.mono (HSz.out w1) ?_
  rintro r w2 ⟨rfl, b2⟩
  have H2 := Lib.hid (And.intro (H1.out.1.below b2) (H1.out.2.trans (b2.mono H1.out.2.size)))
  clear b2
  go_wp2_with (at_builtin; refine wp_appF rfl (.tmp 29) (.tmp 31) rfl rfl (H2.out.1.below (Gw.alloc w2 _)) (some ⟨w2.heap.size, 0, none⟩) 1 1 [(1, sizeS)] rfl rfl (rdF_new w2 1 sizeS) (by decide) (Nat.le_trans H2.out.2.size (Gw.alloc w2 _).size) ?_; intro v3 w3 ho3 hb3 hg3 hj3; have H3 := Lib.hid (And.intro ho3 ((H2.out.2.trans ((Gw.alloc w2 _).mono H2.out.2.size)).trans hb3)); clear ho3 hb3 hg3 hj3)
  go_ret
  exact ⟨v3, rfl, H3.out.1, H3.out.2⟩
theorem right3_c (w : World) (q c : Nat) (hr : Rd u64v w w.heap.size (some ⟨q, 0, none⟩) [1296125772#64, 196608#64, 9223372036854775808#64]) : Calls Try.prog 12 #[.slice (some ⟨q, 0, none⟩) 3 c] w (RetP (.bool true) w) := by
  have HI := Lib.hid (imgA_c w q c hr)
  clear hr
  go_enter Try.func12, Try.ntmps12
  go_wp2_with fail
  refine Calls.mono HI.out ?_
  rintro r w1 ⟨lv, rfl, h1, b1⟩
  obtain ⟨A, cc, e0, _⟩ := h1.slice_
  replace e0 : lv = .slice A 0 cc := e0
  subst e0
  have H1 := Lib.hid b1
  clear h1 b1
  go_wp2_with fail
  go_ret
  exact ⟨rfl, H1.out⟩
theorem rightN_c (w : World) : Calls Try.prog 12 #[.slice none 0 0] w (RetP (.bool false) w) := by
  have HI := Lib.hid (imgN_c w)
  go_enter Try.func12, Try.ntmps12
  go_wp2_with fail
  refine Calls.mono HI.out ?_
  rintro r w1 ⟨lv, rfl, h1, b1⟩
  obtain ⟨q, cc, e0⟩ := fr_some (n := 2) h1 rfl
  subst e0
  have H1 := Lib.hid b1
  clear h1 b1
  go_wp2_with fail
  go_ret
  exact ⟨rfl, H1.out⟩
theorem rd3 (w : World) (c : Nat) (a b d : BitVec 64) (E : TypeId) : Rd u64v (w.alloc (.cells #[u64v a, u64v b, u64v d] E)) (w.heap.size + 1) (some ⟨w.heap.size, 0, none⟩) [a, b, d] := by
  have hb := Bk.new w E #[u64v a, u64v b, u64v d]
  intro j hj
  refine ⟨_, rfl, Nat.lt_succ_self _, ?_⟩
  rw [add_off]
  match j, hj with
  | 0, _ => exact hb.cell 0
  | 1, _ => exact hb.cell 1
  | 2, _ => exact hb.cell 2
theorem known26_c (w : World) : Calls Try.prog 7 #[] w (RetP (.bool true) w) := by
  have HN := Lib.hid imgN_c
  have HRn := Lib.hid rightN_c
  go_enter Try.func7, Try.ntmps7
  go_wp2_with fail
  obtain ⟨w1, hw1⟩ : ∃ W, W = w.alloc (.cells #[.int .u64 1296125772, .int .u64 196608, .int .u64 9223372036854775808] 57) := ⟨_, rfl⟩
  obtain ⟨q, hq⟩ : ∃ q, q = w.heap.size := ⟨_, rfl⟩
  have e1 : w1.heap.size = q + 1 := by rw [hw1, hq]; unfold World.alloc; simp
  have hA : Rd u64v w1 w1.heap.size (some ⟨q, 0, none⟩) [1296125772#64, 196608#64, 9223372036854775808#64] := by
    rw [e1, hq, hw1]
    exact rd3 w 0 1296125772#64 196608#64 9223372036854775808#64 57
  have b01 : Below w.heap.size w w1 := by rw [hw1]; exact Gw.alloc w _
  rw [← hw1, ← hq, ← e1]
  obtain ⟨w2, hw2⟩ : ∃ W, W = w1.alloc (.cells #[.int .u64 1296125772, .int .u64 196608, .int .u64 5] 57) := ⟨_, rfl⟩
  obtain ⟨q2, hq2⟩ : ∃ q, q = w1.heap.size := ⟨_, rfl⟩
  have e2 : w2.heap.size = q2 + 1 := by rw [hw2, hq2]; unfold World.alloc; simp
  have hB : Rd u64v w2 w2.heap.size (some ⟨q2, 0, none⟩) [1296125772#64, 196608#64, 5#64] := by
    rw [e2, hq2, hw2]
    exact rd3 w1 0 1296125772#64 196608#64 5#64 57
  have b12 : Below w1.heap.size w1 w2 := by rw [hw2]; exact Gw.alloc w1 _
  rw [← hw2, ← hq2]
  have H2 := Lib.hid (And.intro ((hA.below b12).more b12.size) (b01.trans (b12.mono b01.size)))
  have HIB := Lib.hid (imgB_c w2 q2 3 hB)
  clear hw1 hw2 hq hq2 e1 e2 hA hB b01 b12
  refine Calls.mono HIB.out ?_
  rintro r w3 ⟨lf, rfl, h3, b3⟩
  obtain ⟨qf, cf, e0⟩ := fr_some (n := 1) h3 rfl
  subst e0
  obtain ⟨qq, hqq, _, hql, f0, f1⟩ := h3.at_ 0 (by decide)
  injection hqq with hqq
  injection hqq with hqq
  subst hqq
  have f0 : w3.cell? ⟨qf, 0, none⟩ = some (.int .i64 2) := f0
  have f1 : w3.cell? ⟨qf, 1, none⟩ = some (.string headS) := f1
  have H3 := Lib.hid (And.intro hql (And.intro f0 (And.intro f1 (And.intro ((H2.out.1.below b3).more b3.size) (H2.out.2.trans (b3.mono H2.out.2.size))))))
  clear h3 b3 hql f0 f1 HIB H2
  go_wp2_with fail
  refine Calls.mono (HN.out w3) ?_
  rintro r w4 ⟨lg, rfl, h4, b4⟩
  obtain ⟨qg, cg, e0⟩ := fr_some (n := 2) h4 rfl
  subst e0
  obtain ⟨qq, hqq, _, hql, _, g1⟩ := h4.at_ 0 (by decide)
  injection hqq with hqq
  injection hqq with hqq
  subst hqq
  obtain ⟨qq, hqq, _, _, _, g2⟩ := h4.at_ 1 (by decide)
  injection hqq with hqq
  injection hqq with hqq
  subst hqq
  have g1 : w4.cell? ⟨qg, 1, none⟩ = some (.string magicS) := g1
  have g2 : w4.cell? ⟨qg, 3, none⟩ = some (.string sizeS) := g2
  have H4 := Lib.hid (And.intro hql (And.intro g1 (And.intro g2 (And.intro ((H3.out.2.2.2.1.below b4).more b4.size) (And.intro (H3.out.2.2.2.2.trans (b4.mono H3.out.2.2.2.2.size)) b4)))))
  clear h4 b4 hql g1 g2 HN
  go_wp2_with fail
  refine Calls.mono (right3_c w4 _ _ H4.out.2.2.2.1) ?_
  rintro r w5 ⟨rfl, b5⟩
  have H5 := Lib.hid (And.intro ((H4.out.2.2.2.1.below b5).more b5.size) b5)
  clear b5
  go_wp2_with fail
  refine Calls.mono (imgA_c w5 _ _ H5.out.1) ?_
  rintro r w6 ⟨ll, rfl, h6, b6⟩
  obtain ⟨A, cc, e0, _⟩ := h6.slice_
  replace e0 : ll = .slice A 0 cc := e0
  subst e0
  have b46 : Below w4.heap.size w4 w6 := H5.out.2.trans (b6.mono H5.out.2.size)
  have b36 : Below w3.heap.size w3 w6 := H4.out.2.2.2.2.2.trans (b46.mono H4.out.2.2.2.2.2.size)
  have b06 : Below w.heap.size w w6 := H4.out.2.2.2.2.1.trans (b46.mono H4.out.2.2.2.2.1.size)
  have f0 : w6.cell? ⟨qf, 0, none⟩ = some (.int .i64 2) := (b36.cell (p := ⟨qf, 0, none⟩) H3.out.1).trans H3.out.2.1
  have f1 : w6.cell? ⟨qf, 1, none⟩ = some (.string ⟨#[104, 101, 97, 100]⟩) := (b36.cell (p := ⟨qf, 1, none⟩) H3.out.1).trans H3.out.2.2.1
  have g1 : w6.cell? ⟨qg, 1, none⟩ = some (.string ⟨#[109, 97, 103, 105, 99]⟩) := (b46.cell (p := ⟨qg, 1, none⟩) H4.out.1).trans H4.out.2.1
  have g2 : w6.cell? ⟨qg, 3, none⟩ = some (.string ⟨#[115, 105, 122, 101]⟩) := (b46.cell (p := ⟨qg, 3, none⟩) H4.out.1).trans H4.out.2.2.1
  have H6 := Lib.hid b06
  clear b46 b36 b06 b6 h6
  go_wp2_with fail
  refine Calls.mono (HRn.out w6) ?_
  rintro r w7 ⟨rfl, b7⟩
  have H7 := Lib.hid b7
  clear b7
  go_wp2_with fail
  go_ret
  exact ⟨rfl, H6.out.trans (H7.out.mono H6.out.size)⟩
end Go.Proofs.Ytaminpfgkegibaa
/- loamlaw16.To: words as a space, or none. Conditions: lengths. -/
namespace Go.Proofs.Ytaminpfgkegibaa
set_option linter.unusedVariables false
set_option linter.unusedSimpArgs false
open Go.RowKit
set_option maxHeartbeats 1000000
set_option maxRecDepth 100000
/-- Is there no such space? -/
def toN (ws : List (BitVec 64)) (b t e : Int) : Prop := (b < 0 ∨ (¬ b < 0 ∧ t < b) ∨ (¬ b < 0 ∧ ¬ t < b ∧ e < t) ∨ (¬ b < 0 ∧ ¬ t < b ∧ ¬ e < t ∧ (ws.length : Int) < e))
theorem to_out (w : World) (A : Option Addr) (ws : List (BitVec 64)) (c : Nat) (hr : Rd u64v w w.heap.size A ws) (hl : ws.length ≤ 8192) (b t e : Int) (ho : toN ws b t e) : Calls Try.prog 13 #[.slice A ws.length c, .int .i64 b, .int .i64 t, .int .i64 e] w (RetP (.pointer none) w) := by
  have HMem := Lib.hid (mem15_c w A c ws hr hl)
  have HOf := Lib.hid (fun W B g v (h : MemAt W B g v ws) => sof_out W (.pointer (some ⟨g, 0, none⟩)) b t e (bare_out W B g v ws b t e h ho))
  obtain ⟨N, hN⟩ : ∃ N, N = ws.length := ⟨_, rfl⟩
  rw [← hN] at HMem ⊢
  clear hr hl hN ho
  go_enter Try.func13, Try.ntmps13
  go_wp2_with fail
  refine Calls.mono HMem.out ?_
  rintro r w2 ⟨g, v, rfl, h2, b2⟩
  have HM2 := Lib.hid (HOf.out w2 _ g v h2)
  have HB2 := Lib.hid b2
  clear h2 b2
  go_wp2_with fail
  refine Calls.mono HM2.out ?_
  rintro r w3 ⟨rfl, rfl⟩
  go_wp2_with fail
  go_ret
  exact ⟨rfl, HB2.out⟩
theorem to_none (w : World) (A : Option Addr) (ws : List (BitVec 64)) (c : Nat) (hr : Rd u64v w w.heap.size A ws) (hl : ws.length ≤ 8192) (b t e : Nat) (hbt : b ≤ t) (hte : t ≤ e) (hel : e ≤ ws.length) (ho : objF ws t (t + 1) b = none) : Calls Try.prog 13 #[.slice A ws.length c, .int .i64 b, .int .i64 t, .int .i64 e] w (RetP (.pointer none) w) := by
  have HMem := Lib.hid (mem15_c w A c ws hr hl)
  have HOf := Lib.hid (fun W B g v (h : MemAt W B g v ws) => sof_none W B g v ws b t e h hbt hte hel (by omega) ho)
  obtain ⟨N, hN⟩ : ∃ N, N = ws.length := ⟨_, rfl⟩
  rw [← hN] at HMem ⊢
  clear hr hl hN ho hbt hte hel
  go_enter Try.func13, Try.ntmps13
  go_wp2_with fail
  refine Calls.mono HMem.out ?_
  rintro r w2 ⟨g, v, rfl, h2, b2⟩
  have HM2 := Lib.hid (HOf.out w2 _ g v h2)
  have HB2 := Lib.hid b2
  clear h2 b2
  go_wp2_with fail
  refine Calls.mono HM2.out ?_
  rintro r w3 ⟨rfl, b3⟩
  have HB3 := Lib.hid (HB2.out.trans (b3.mono HB2.out.size))
  clear b3
  go_wp2_with fail
  go_ret
  exact ⟨rfl, HB3.out⟩
theorem to_some (w : World) (A : Option Addr) (ws : List (BitVec 64)) (c : Nat) (hr : Rd u64v w w.heap.size A ws) (hl : ws.length ≤ 8192) (b t e : Nat) (hbt : b ≤ t) (hte : t ≤ e) (hel : e ≤ ws.length) (l : List Nat) (ho : objF ws t (t + 1) b = some l) : Calls Try.prog 13 #[.slice A ws.length c, .int .i64 b, .int .i64 t, .int .i64 e] w fun r w' => ∃ s g v, r = .returned (.pointer (some ⟨s, 0, none⟩)) ∧ SpAt w' w.heap.size s g v ws b t e ∧ Below w.heap.size w w' := by
  have HMem := Lib.hid (mem15_c w A c ws hr hl)
  have HOf := Lib.hid (fun W B g v (h : MemAt W B g v ws) => sof_some W B g v ws b t e h hbt hte hel (by omega) l ho)
  obtain ⟨N, hN⟩ : ∃ N, N = ws.length := ⟨_, rfl⟩
  rw [← hN] at HMem ⊢
  clear hr hl hN ho hbt hte hel
  go_enter Try.func13, Try.ntmps13
  go_wp2_with fail
  refine Calls.mono HMem.out ?_
  rintro r w2 ⟨g, v, rfl, h2, b2⟩
  have HM2 := Lib.hid (HOf.out w2 _ g v h2)
  have HB2 := Lib.hid b2
  clear h2 b2
  go_wp2_with fail
  refine Calls.mono HM2.out ?_
  rintro r w3 ⟨s, rfl, h3, b3⟩
  have HB3 := Lib.hid (And.intro h3 (HB2.out.trans (b3.mono HB2.out.size)))
  clear b3 h3
  go_wp2_with fail
  go_ret
  exact ⟨s, g, v, rfl, HB3.out.1, HB3.out.2⟩
/-- What To makes of words. -/
def toP (ws : List (BitVec 64)) (b t e : Int) (w : World) (r : Ending) (w' : World) : Prop :=
  (r = .returned (.pointer none) ∧ Below w.heap.size w w') ∨ ∃ (B T E : Nat) (s g : Nat) (v : Value) (l : List Nat), b = (B : Int) ∧ t = (T : Int) ∧ e = (E : Int) ∧ B ≤ T ∧ T ≤ E ∧ E ≤ ws.length ∧ objF ws T (T + 1) B = some l ∧ r = .returned (.pointer (some ⟨s, 0, none⟩)) ∧ SpAt w' w.heap.size s g v ws B T E ∧ Below w.heap.size w w'
theorem to_c (w : World) (A : Option Addr) (ws : List (BitVec 64)) (c : Nat) (hr : Rd u64v w w.heap.size A ws) (hl : ws.length ≤ 8192) (b t e : Int) : Calls Try.prog 13 #[.slice A ws.length c, .int .i64 b, .int .i64 t, .int .i64 e] w (toP ws b t e w) := by
  by_cases ho : toN ws b t e
  · exact (to_out w A ws c hr hl b t e ho).mono fun r w' h => .inl h
  · unfold toN at ho
    obtain ⟨B, rfl⟩ : ∃ k : Nat, b = (k : Int) := ⟨b.toNat, by omega⟩
    obtain ⟨T, rfl⟩ : ∃ k : Nat, t = (k : Int) := ⟨t.toNat, by omega⟩
    obtain ⟨E, rfl⟩ : ∃ k : Nat, e = (k : Int) := ⟨e.toNat, by omega⟩
    cases h : objF ws T (T + 1) B with
    | none => exact (to_none w A ws c hr hl B T E (by omega) (by omega) (by omega) h).mono fun r w' h => .inl h
    | some l => exact (to_some w A ws c hr hl B T E (by omega) (by omega) (by omega) l h).mono fun r w' ⟨s, g, v, h1, h2, h3⟩ => .inr ⟨B, T, E, s, g, v, l, rfl, rfl, rfl, by omega, by omega, by omega, h, h1, h2, h3⟩
end Go.Proofs.Ytaminpfgkegibaa
/- How an argument of type []uint64 is opened. No conditions. -/
namespace Go.Proofs.Ytaminpfgkegibaa
set_option linter.unusedVariables false
set_option linter.unusedSimpArgs false
open Go.ChangeShapes Go.WideShapes Go.ChangeAt Go.RowKit
theorem open_words {H : Type} {enc : TypeId × Value → H} {P : Program} {W : World} {base : Nat} {sp : Nat → Bool} {hd : Bool} {r : Reach} {b0 : Nat} {t e : TypeId} {v : Value} {d : DataW H} {p : List MemPlace}
    (ht : P.underlying t = some (.slice e)) (he : P.underlying e = some (.int .u64)) (hc : P.cellsOf e = 1)
    (hv : Value.okWide P W r b0 t v) (h : DataW.Trod enc P W base sp hd t v d p) :
    ∃ (A : Option Addr) (bs : List (BitVec 64)) (c : Nat), v = .slice A bs.length c ∧ bs.length ≤ c ∧ c ≤ maxLen ∧ Rd u64v W W.heap.size A bs := by
  obtain ⟨a0, len, cap, rfl⟩ := okWide_slice ht hv
  obtain ⟨fuel, hf⟩ := h
  rcases open_ints ht he hc hf with ⟨hcs, _⟩ | ⟨x, l, c, zs, hcs, _, hl, hm, hz, _, hcell, hwz⟩
  · simp [Value.cells] at hcs
    obtain ⟨rfl, rfl, rfl⟩ := hcs
    exact ⟨none, [], 0, rfl, Nat.le_refl _, by simp [maxLen], Rd.nil⟩
  · simp [Value.cells] at hcs
    obtain ⟨rfl, rfl, rfl⟩ := hcs
    have hlen : len ≤ zs.length := by rw [hz]; split <;> omega
    refine ⟨some x, (zs.take len).map (BitVec.ofInt 64), cap, by simp; omega, by simp; omega, hm, fun j hj => ?_⟩
    have hj' : j < len := by simp at hj; omega
    have hc1 := hcell j (by omega)
    have hb := cell_lt hc1
    rw [add_block] at hb
    refine ⟨x, rfl, hb, ?_⟩
    rw [hc1]
    have hw := hwz (zs.getD j 0) (by rw [List.getD_eq_getElem?_getD, List.getElem?_eq_getElem (by omega)]; exact List.getElem_mem _)
    rw [wfu64 hw]
    have e : zs.getD j 0 = zs[j]'(by omega) := by rw [List.getD_eq_getElem?_getD, List.getElem?_eq_getElem (by omega)]; rfl
    rw [e]
    simp [u64v]
end Go.Proofs.Ytaminpfgkegibaa
