/- The law DiskPlays of layer 3 returns true for every argument. No conditions. -/
import Derived.Test.YtfcbmdmkdjaoaaaMdW1
import Derived.Test.YtfcbmdmkdjaoaaaMdW2
import Derived.Test.YtfcbmdmkdjaoaaaMdW3
import Derived.Test.YtfcbmdmkdjaoaaaMdW4
import Derived.Test.YtfcbmdmkdjaoaaaMdW5
import Derived.Test.YtfcbmdmkdjaoaaaMdW6
import Derived.Test.YtfcbmdmkdjaoaaaMdW7
import Derived.Test.YtfcbmdmkdjaoaaaMdW8
import Derived.Test.YtfcbmdmkdjaoaaaMdX
namespace Go.Proofs.Ytfcbmdmkdjaoaaa
set_option linter.unusedVariables false
set_option linter.unusedSimpArgs false
open Go.RowKit Go.Maps
set_option maxRecDepth 100000
set_option maxHeartbeats 200000000
theorem dp_ok (w : World) (A : Option Addr) (l : List DA) (c secs S : Nat) (hl : l.length ≤ 80) (hL : Das w w.heap.size A l) (h1 : 64 ≤ S ∧ S ≤ 256) (h2 : 1 ≤ secs ∧ secs ≤ 64) : Calls Try.prog 3 #[.int .i64 secs, .int .i64 S, .slice A l.length c] w (TruP (.bool true) w) := by
  have HNew := Lib.hid (fun w => dnew_ok w secs S ⟨h1.1, by omega⟩ ⟨h2.1, by omega⟩)
  obtain ⟨n, hn⟩ : ∃ n, n = l.length := ⟨_, rfl⟩
  rw [← hn] at hl ⊢
  have HN := Lib.hid hn
  have HL := Lib.hid hL
  have HS := Lib.hid (And.intro h1 h2)
  have q1 : (n : Int) ≤ 80 := by omega
  have q2 : (S : Int) ≤ 256 := by omega
  have q3 : (64 : Int) ≤ (S : Int) := by omega
  have q4 : (secs : Int) ≤ 64 := by omega
  have q5 : (1 : Int) ≤ (secs : Int) := by omega
  clear hl hL h1 h2 hn
  go_enter Try.func3, Try.ntmps3
  go_wp2_with fail
  refine Calls.mono (known3_c w) ?_
  rintro e w1 ⟨rfl, d1⟩
  have HB1 := Lib.hid d1
  clear d1
  go_wp2_with fail
  refine Calls.mono (HNew.out w1) ?_
  rintro e w2 ⟨gd, rfl, h2, d2⟩
  have H2 := Lib.hid h2
  have HB2 := Lib.hid (HB1.out.trans (d2.mono HB1.out.size))
  clear h2 d2 HNew
  go_wp2_with fail
  obtain ⟨gm, hgm⟩ : ∃ q, q = w2.heap.size := ⟨_, rfl⟩
  obtain ⟨W3, hW3⟩ : ∃ X, X = w2.alloc (.cells #[.int .i64 S, .slice none 0 0, .slice none 0 0, .bool false, .bool false, .int .i64 0, .slice none 0 0, .int .i64 0] 33) := ⟨_, rfl⟩
  have HLay := Lib.hid (show Lay w (gm + 1) gm S (dk0 secs S (List.replicate (secs * S) 0#8)) W3 gd 0 none 0 from by
    rw [hW3, hgm]
    have hb := Gw.alloc w2 (.cells #[.int .i64 S, .slice none 0 0, .slice none 0 0, .bool false, .bool false, .int .i64 0, .slice none 0 0, .int .i64 0] 33)
    refine ⟨HB2.out.trans (hb.mono HB2.out.size), ((H2.out.low HB1.out.size).to (fun q e => ?_)).below hb, Bk.new w2 _ _, Ow.nil_ _ _ _ _, HB2.out.size, by omega, by simp⟩
    rcases e with e | ⟨a, e, _⟩
    · exact .inr (.inl (by omega))
    · cases e)
  rw [← hW3, ← hgm]
  clear hW3 hgm H2 HB2
  go_loopw [11] (fun i wr => ∃ (k kc : Nat) (kA : Option Addr), k ≤ secs ∧ i = .int .i64 k ∧ Hid (Lay w (gm + 1) gm S (dk0 secs S (List.replicate (secs * S) 0#8)) wr gd k kA kc)) (fun i _ => secs - (intOf i).toNat)
  case atStart => exact ⟨0, 0, none, Nat.zero_le _, rfl, HLay⟩
  case round =>
    obtain ⟨k, kc, kA, hk, rfl, hy⟩ := hrel
    clear HLay
    by_cases hlt : k < secs
    · as_aux_lemma =>
      have p1 : (0 : Int) ≤ (k : Int) := by omega
      have p2 : (k : Int) < (secs : Int) := by omega
      have c1 : wr.cell? ⟨gm, 1, none⟩ = some (.slice kA k kc) := hy.out.bk.cell 1
      have HC1 := Lib.hid c1
      go_wp2_with fail
      refine region_by_spineU 12 [6, 7, 8, 9, 10, 11, 12] [(0, 92, .pointer (some ⟨gm, 0, none⟩)), (1, 93, .pointer (some ⟨gm, 0, none⟩)), (2, 94, .pointer (some ⟨gm, 0, none⟩)), (3, 95, .pointer (some ⟨gm, 1, none⟩)), (4, 96, .slice kA k kc), (5, 97, .int .i64 S)]
        (fun W => W.cell? ⟨gm, 1, none⟩ = some (.slice kA k kc)) (by kernel_rfl) (by kernel_rfl) (by kernel_rfl) (by kernel_rfl) (by kernel_rfl) (by kernel_rfl) (by kernel_rfl) c1 ?_ ?_
      · intro y hy V ρ k2 hρ hcst
        have e1 : ρ (.tmp 1) = .int .i64 S := (hρ 1).trans (by kernel_rfl)
        have e10 : ρ (.tmp 10) = .pointer (some ⟨gm, 0, none⟩) := (hρ 10).trans (by kernel_rfl)
        have e93 : ρ (.tmp 93) = .pointer (some ⟨gm, 0, none⟩) := (hρ 93).trans (by kernel_rfl)
        have e94 : ρ (.tmp 94) = .pointer (some ⟨gm, 0, none⟩) := (hρ 94).trans (by kernel_rfl)
        have e95 : ρ (.tmp 95) = .pointer (some ⟨gm, 1, none⟩) := (hρ 95).trans (by kernel_rfl)
        clear hρ
        simp only [List.mem_cons, List.not_mem_nil, or_false] at hy
        rcases hy with rfl | rfl | rfl | rfl | rfl | rfl
        all_goals
          refine ⟨_, rfl, ?_⟩
          go_simp
          try rfl
      simp only [putA, putD, Act.put, List.setIfInBounds_toArray, List.set_cons_zero, List.set_cons_succ]
      refine spineU_list rfl rfl rfl ?_
      refine wp_make (f := b8) one8 rfl (.tmp 97) (.tmp 97) rfl (0#8) rfl wr.heap.size S .i64 .i64 (S : Int) (S : Int) rfl rfl rfl rfl (by have := HS.out.1.2; omega) (by decide) (Nat.le_refl _) ?_
      intro q w4 hq ho4 hb4 hg4
      replace hb4 : Below wr.heap.size wr w4 := (Gw.drew _).trans hb4
      have hk4 := str_conv (zS S) (some ⟨q, 0, none⟩) S _ w4 (by have := ho4.rd2; exact this)
      rw [show (zS S).length = S from List.length_replicate] at hk4
      have hc4 : w4.cell? ⟨gm, 1, none⟩ = some (.slice kA k kc) := (hy.out.bk.below hb4 hy.out.bk.lt).cell 1
      have HC4 := Lib.hid hc4
      have HB4 := Lib.hid hb4
      clear ho4 hb4 hg4 hq c1 hc4
      refine ⟨rfl, (by first | exact HC4.out | exact fun _ => HC4.out), ?_⟩
      refine spineU_list rfl rfl rfl ?_
      go_wp2_with fail
      refine ⟨rfl, (by first | exact HC4.out | exact fun _ => HC4.out), ?_⟩
      refine spineU_list rfl rfl rfl ?_
      go_wp2_with fail
      have hb5 : Below wr.heap.size wr (w4.alloc (.cells #[.string (strB (zS S))] 9)) := HB4.out.trans ((Gw.alloc w4 _).mono HB4.out.size)
      have HB5 := Lib.hid hb5
      have hk5 := Bk.new w4 9 #[.string (strB (zS S))]
      have hc5 : (w4.alloc (.cells #[.string (strB (zS S))] 9)).cell? ⟨gm, 1, none⟩ = some (.slice kA k kc) := (hy.out.bk.below hb5 hy.out.bk.lt).cell 1
      have HC5 := Lib.hid hc5
      have hr5 : Rd stV (w4.alloc (.cells #[.string (strB (zS S))] 9)) (w4.heap.size + 1) (some ⟨w4.heap.size, 0, none⟩) [zS S] := hk5.rd rfl (Nat.lt_succ_self _)
      have ho5 := hy.out.ow.below hb5
      have hd5 := hy.out.dx.below hb5
      have HD5 := Lib.hid hd5
      have HO5 := Lib.hid ho5
      refine ⟨rfl, (by first | exact HC5.out | exact fun _ => HC5.out), ?_⟩
      refine spineU_list rfl rfl rfl ?_
      refine wp_app oneSt (fun _ => rfl) rfl (.tmp 96) (.tmp 100) rfl (gm + 1) _ (List.replicate k (zS S)) rfl ho5 (some ⟨w4.heap.size, 0, none⟩) 1 1 [zS S] rfl rfl _ hr5 (by have := HS.out.2.2; simp; omega) (by decide) (Nat.le_trans hy.out.lt.2.2 hb5.size) ?_
      intro v6 w6 ho6 hb6 hg6 hv6
      obtain ⟨A6, c6, rfl, hc6⟩ := ho6.form
      rw [← List.replicate_succ', List.length_replicate] at ho6 hv6 ⊢
      have kg := Kept.grown hg6
      have hown : ∀ q, (Value.slice kA k kc).ownBlock = some q → ∃ a, kA = some a ∧ q = a.block := fun q e => own_slice e
      have hne : ¬ (Value.slice kA k kc).ownBlock = some gm := fun e => by have := (World.ownsRow.lt HO5.out gm e).1; omega
      have hbk6 := kg.bk (hy.out.bk.below HB5.out hy.out.bk.lt) hne
      have hc6' : w6.cell? ⟨gm, 1, none⟩ = some (.slice kA k kc) := hbk6.cell 1
      have hf6 := hbk6.free 1
      have HC6 := Lib.hid hc6'
      have hd6 : DiskX w.heap.size (fun q => q = gm ∨ (∃ a, kA = some a ∧ q = a.block) ∨ q = (w4.alloc (.cells #[.string (strB (zS S))] 9)).heap.size) w6 gd (dk0 secs S (List.replicate (secs * S) 0#8)) :=
        (HD5.out.to (X' := fun q => q = gm ∨ (∃ a, kA = some a ∧ q = a.block) ∨ q = (w4.alloc (.cells #[.string (strB (zS S))] 9)).heap.size) (fun q e => by
          rcases e with e | e | e
          · exact .inl (.inl e)
          · exact .inl (.inr e)
          · exact .inr (.inl (Nat.le_of_eq e.symm)))).kept (kg.more (fun q e => .inr (.inl (hown q e))))
      have HE := Lib.hid (show Lay w (gm + 1) gm S (dk0 secs S (List.replicate (secs * S) 0#8)) (w6.setCell ⟨gm, 1, none⟩ (.slice A6 (k + 1) c6)) gd (k + 1) A6 c6 from by
        have ks := Kept.set w6 gm 1 (.slice A6 (k + 1) c6)
        refine ⟨?_, ?_, hbk6.set 1 _, ks.ow ho6 (fun q e f => by have := (World.ownsRow.lt ho6 q e).1; omega), hy.out.lt.1, hy.out.lt.2.1, ?_⟩
        · have hlt1 := hy.out.lt.1
          exact ((hy.out.bl.trans (HB5.out.mono hy.out.bl.size)).trans (hb6.mono (by omega))).setCell hlt1 _
        · refine (hd6.kept (ks.more (fun q e => .inl e))).to (fun q e => ?_)
          rcases e with e | ⟨a, e, rfl⟩
          · exact .inl (.inl e)
          · have hv : (Value.slice A6 (k + 1) c6).ownBlock = some a.block := by rw [e]; rfl
            rw [hv] at hv6
            rcases hv6 with f | f
            · exact .inl (.inr (.inl (hown _ f.symm)))
            · injection f with f; exact .inl (.inr (.inr f))
        · have h1 := hy.out.lt.2.2
          have h2 := HB5.out.size
          have h3 := hb6.size
          simp only [World.size_setCell]
          omega)
      refine ⟨rfl, (by first | exact HC6.out | exact fun _ => HC6.out), ?_⟩
      clear ho6 hb6 hg6 hv6 kg hown hne hd6 ho5 hd5 hr5 hk5 hb5 hc5 hk4 hbk6
      refine spineU_list rfl rfl rfl ?_
      go_wp2_with fail
      refine ⟨rfl, (by first | exact HC6.out | exact fun _ => HC6.out), ?_⟩
      refine spineU_list rfl rfl rfl ?_
      go_wp2_with fail
      refine ⟨rfl, (by first | exact HC6.out | exact fun _ => HC6.out), ?_⟩
      refine spineU_list rfl rfl rfl ?_
      go_wp2_with fail
      refine ⟨rfl, trivial, ?_⟩
      unfold SpineU
      clear hc6' hf6
      go_wp2_with fail
      go_roundw
      case rel => exact ⟨k + 1, c6, A6, by omega, by go_num, HE⟩
      case measure => (first | (simp [intOf]; done) | (simp [intOf]; omega))
    · obtain rfl : k = secs := by omega
      obtain ⟨m0, hm0⟩ : ∃ m : Mod, m = ⟨S, List.replicate k (List.replicate S 0#8), [], false, false, 0, [], 0⟩ := ⟨_, rfl⟩
      obtain ⟨d0, hd0⟩ : ∃ d, d = dk0 k S (List.replicate (k * S) 0#8) := ⟨_, rfl⟩
      have HI0 := Lib.hid (show Inv k S 0 d0 m0 from by rw [hm0, hd0]; exact Inv.first k S ⟨by omega, by omega⟩ ⟨by omega, by omega⟩)
      have HLc := Lib.hid (show Loc w gm (fun _ => False) wr gd d0 m0 from by
        have h := hy.out
        rw [← hd0] at h
        have hne : ∀ a, kA = some a → a.block ≠ gm := fun a e f => by have := (World.ownsRow.lt h.ow a.block (by rw [e]; rfl)).1; omega
        refine ⟨⟨kA, kc, none, 0, none, 0⟩, h.dx.to (fun q e => ?_), ⟨?_, ?_, fun j hj => ?_, ?_, ⟨hne, fun a e => (by cases e), fun a e => (by cases e)⟩⟩, h.lt.1, h.bl, fun q e => e.elim⟩
        · rcases e with (e | ⟨a, e, _, e2⟩ | ⟨a, e, _⟩ | ⟨a, e, _⟩) | e
          · exact .inl (.inl e)
          · exact .inl (.inr ⟨a, e, e2⟩)
          · cases e
          · cases e
          · exact e.elim
        · rw [hm0]; show Bk wr gm _ #[_, .slice kA (List.replicate k (List.replicate S 0#8)).length kc, _, _, _, _, _, _]; rw [List.length_replicate]; exact h.bk
        · rw [hm0]; exact h.ow.rd2
        · rw [hm0] at hj; exact absurd hj (by simp)
        · rw [hm0]; exact Rd.nil)
      clear hm0 hd0 hy
      go_wp2_with fail
      go_loopw [7, 12] (fun s7 i wr => ∃ (j gd : Nat) (d : DK) (m : Mod), j ≤ n ∧ i = .int .i64 j ∧ s7 = .pointer (some ⟨gd, 0, none⟩) ∧ Hid (Loc w gm (fun _ => False) wr gd d m) ∧ Hid (Inv k S j d m)) (fun _ i _ => n - (intOf i).toNat)
      case atStart => exact ⟨0, gd, d0, m0, Nat.zero_le _, rfl, rfl, HLc, HI0⟩
      case round =>
        clear HLc HI0
        obtain ⟨j, g1, d, m, hj, rfl, rfl, hL, hI⟩ := hrel
        by_cases hlt : j < n
        · as_aux_lemma =>
          go_light
          have p1 : (0 : Int) ≤ (j : Int) := by omega
          have p2 : (j : Int) < (n : Int) := by omega
          have hjl : j < l.length := by rw [← HN.out]; exact hlt
          obtain ⟨ad, rfl, hDa⟩ := HL.out j hjl
          obtain ⟨X, hX⟩ : ∃ X, X = l[j] := ⟨_, rfl⟩
          rw [← hX] at hDa
          have hbw : Below w.heap.size w wr := by obtain ⟨x, hx⟩ := hL.out; exact hx.bl
          obtain ⟨op, sec, nn, ba, bb, bc, wh, ka, kk, kc2⟩ := X
          have hDw := hDa.below hbw
          obtain ⟨cb, c0, c1, c2, c3, c4, c5, w0, w1', w2', hb1, hb2, hb3, hk1, hk2, hk3⟩ := hDw
          obtain ⟨bn, hbn⟩ : ∃ x, x = bb.length := ⟨_, rfl⟩
          obtain ⟨kn, hkn⟩ : ∃ x, x = kk.length := ⟨_, rfl⟩
          simp only at c0 c1 c2 c3 c4 c5 hb1 hb2 hk1 hk2 w0 w1' w2'
          rw [← hbn] at c3
          rw [← hkn] at c5
          have HA := Lib.hid (show bn = bb.length ∧ kn = kk.length ∧ bn ≤ maxLen ∧ kn ≤ maxLen ∧ Rd b8 w w.heap.size ba bb ∧ Rd boV w w.heap.size ka kk from ⟨hbn, hkn, by omega, by omega, hDa.br, hDa.kr⟩)
          have HW := Lib.hid (And.intro w0 (And.intro w1' w2'))
          have hDa2 := hDa
          clear hX hDa hb1 hb2 hb3 hk1 hk2 hk3 hbn hkn w0 w1' w2' hbw hjl cb
          have HBl := Lib.hid (hL.out.bl.trans ((Gw.alloc wr (.cells #[.int .i64 op, .int .i64 sec, .int .i64 nn, .slice ba bn bc, .bool wh, .slice ka kn kc2] 36)).mono hL.out.bl.size))
          by_cases hb20 : (2000 : Int) < (bn : Int)
          · go_wp2_with fail
            go_ret
            exact ⟨rfl, HBl.out⟩
          · have q6 : (bn : Int) ≤ 2000 := by omega
            clear hb20
            by_cases hk30 : kn ≤ 300
            · have HKe := Lib.hid (fun W => keeps_c W ka kn kc2 true (by simp; omega))
              have q7 : (kn : Int) ≤ 300 := by omega
              go_wp2_with fail
              refine Calls.mono (HKe.out _) ?_
              rintro e w5 ⟨rfl, rfl⟩
              clear HKe
              obtain ⟨cs, hcs⟩ : ∃ cs : Array Value, cs = #[.int .i64 op, .int .i64 sec, .int .i64 nn, .slice ba bn bc, .bool wh, .slice ka kn kc2] := ⟨_, rfl⟩
              obtain ⟨ga, hga⟩ : ∃ q, q = wr.heap.size := ⟨_, rfl⟩
              obtain ⟨W5, hW5⟩ : ∃ X, X = wr.alloc (.cells #[.int .i64 op, .int .i64 sec, .int .i64 nn, .slice ba bn bc, .bool wh, .slice ka kn kc2] 36) := ⟨_, rfl⟩
              have HL5 := Lib.hid (show Loc w gm (fun q => False ∨ q = ga) W5 g1 d m from by rw [hW5, hga]; exact hL.out.new (Gw.alloc wr _) _ (Nat.le_refl _) (by simp))
              have hK5 : Bk W5 ga 36 #[.int .i64 op, .int .i64 sec, .int .i64 nn, .slice ba bn bc, .bool wh, .slice ka kn kc2] := by rw [hW5, hga]; exact Bk.new wr _ _
              rw [← hW5, ← hga]
              have HK5 := Lib.hid hK5
              have HCS := Lib.hid hcs
              have d3 : W5.cell? ⟨ga, 3, none⟩ = some (.slice ba bn bc) := hK5.cell 3
              have d4 : W5.cell? ⟨ga, 4, none⟩ = some (.bool wh) := hK5.cell 4
              have HAL := Lib.hid (show ad.block < w.heap.size from by have := hDa2.blk; exact this)
              clear hW5 hga hcs hK5 c0 c1 c2 c3 c4 c5 hL HBl hDa2
              go_upto_if 127 with fail
              go_cut [14] from 104 to 327 (fun s14 wx => ∃ (A2 : Option Addr) (bs : List (BitVec 8)) (nb cb : Nat), s14 = .slice A2 nb cb ∧ Hid (nb = bs.length ∧ nb ≤ maxLen) ∧ Hid (Rnd w gm g1 d m ga cs A2 bs wx))
              case first =>
                cases wh with
                | true =>
                  as_aux_lemma =>
                  go_wp2_with (at_make; refine wp_make (f := b8) one8 rfl (.tmp 128) (.tmp 128) rfl (0#8) rfl W5.heap.size S .i64 .i64 (S : Int) (S : Int) rfl rfl rfl rfl (by have := HS.out.1.2; omega) (by decide) (Nat.le_refl _) ?_; intro q W6 hq ho6 hb6 hg6; have HQ := Lib.hid (And.intro hq (And.intro ho6 hb6)); clear hq ho6 hb6 hg6)
                  have ga3 := d3
                  clear d3 d4
                  go_loopw [15] (fun i wx => ∃ t : Nat, t ≤ S ∧ t ≤ bn ∧ i = .int .i64 t ∧ Hid (Bk wx q 5 ((bb.take t ++ List.replicate (S - t) 0#8).map b8).toArray) ∧ Hid (Below W5.heap.size W5 wx)) (fun i _ => S - (intOf i).toNat)
                  case atStart => exact ⟨0, Nat.zero_le _, Nat.zero_le _, rfl, Lib.hid (by have := HQ.out.2.1.whole (by simp); simpa using this), Lib.hid HQ.out.2.2⟩
                  case round =>
                    obtain ⟨t, ht, ht2, rfl, hbq, hbw⟩ := hrel
                    have g3 : wr.cell? ⟨ga, 3, none⟩ = some (.slice ba bn bc) := (HK5.out.below hbw.out HK5.out.lt).cell 3
                    have p1 : (0 : Int) ≤ (t : Int) := by omega
                    by_cases hlS : t < S ∧ t < bn
                    · as_aux_lemma =>
                      obtain ⟨hlS, hlB⟩ := hlS
                      have p2 : (t : Int) < (S : Int) := by omega
                      have p3 : (t : Int) < (bn : Int) := by omega
                      have htl : t < bb.length := by rw [← HA.out.1]; exact hlB
                      obtain ⟨ad2, rfl, had, hca⟩ := HA.out.2.2.2.2.1 t htl
                      have hbl : Below w.heap.size w wr := HL5.out.bl.trans (hbw.out.mono HL5.out.bl.size)
                      have cv := (hbl.cell (p := ad2.add t) (by rw [add_block]; exact had)).trans hca
                      obtain ⟨y, hy⟩ : ∃ y, y = bb[t] := ⟨_, rfl⟩
                      rw [← hy] at cv
                      have ct : wr.cell? ⟨q, t, none⟩ = some (b8 0#8) := by
                        rw [hbq.out.cell t]
                        simp only [List.getElem?_toArray, List.getElem?_map]
                        rw [List.getElem?_append_right (by rw [List.length_take]; omega), List.length_take, Nat.min_eq_left (by omega), Nat.sub_self, List.getElem?_replicate, if_pos (by omega)]
                        rfl
                      have ft := hbq.out.free t
                      have HN2 := Lib.hid (show Bk (wr.setCell ⟨q, t, none⟩ (b8 y)) q 5 ((bb.take (t + 1) ++ List.replicate (S - (t + 1)) 0#8).map b8).toArray from by
                        have := hbq.out.set t (b8 y)
                        have e : ((bb.take t ++ List.replicate (S - t) 0#8).map b8).toArray.setIfInBounds t (b8 y) = ((bb.take (t + 1) ++ List.replicate (S - (t + 1)) 0#8).map b8).toArray := by
                          rw [List.setIfInBounds_toArray, ← List.map_set]
                          congr 2
                          rw [List.set_append_right _ _ (by rw [List.length_take]; omega), List.length_take, Nat.min_eq_left (by omega), Nat.sub_self, show S - t = (S - (t + 1)) + 1 by omega, List.replicate_succ, List.set_cons_zero, List.take_succ_eq_append_getElem htl, List.append_assoc, hy]
                          rfl
                        rw [e] at this
                        exact this)
                      have HBW := Lib.hid (hbw.out.setCell (p := ⟨q, t, none⟩) (show W5.heap.size ≤ q by have := HQ.out.1; omega) (b8 y))
                      unfold b8 at ct cv HN2 HBW
                      clear hbq hbw hbl hca had hy htl
                      go_wp2_with fail
                      go_roundw
                      case rel => exact ⟨t + 1, by omega, by omega, by go_num, HN2, HBW⟩
                      case measure => (first | (simp [intOf]; done) | (simp [intOf]; omega))
                    · have HM := Lib.hid (show Rnd w gm g1 d m ga cs (some ⟨q, 0, none⟩) (bb.take t ++ List.replicate (S - t) 0#8) wr from
                        ⟨_, HL5.out.new hbw.out q (by have := HQ.out.1; omega) hbq.out.lt, .inl (.inr rfl), by rw [HCS.out]; exact HK5.out.below hbw.out HK5.out.lt, hbq.out.rd rfl hbq.out.lt, fun a e _ => .inr (.inr (by injection e with e; rw [← e]))⟩)
                      have HML := Lib.hid (show S = (bb.take t ++ List.replicate (S - t) 0#8).length ∧ S ≤ maxLen from ⟨by have := HA.out.1; rw [List.length_append, List.length_take, List.length_replicate]; omega, by have := HS.out.1.2; unfold maxLen; omega⟩)
                      clear hbq hbw
                      by_cases hlt2 : t < S
                      · have p2 : (t : Int) < (S : Int) := by omega
                        obtain rfl : t = bn := by omega
                        clear hlS
                        go_wp2_with fail
                        go_meet
                        case rel => exact ⟨_, _, S, S, rfl, HML, HM⟩
                      · obtain rfl : t = S := by omega
                        clear hlS
                        go_wp2_with fail
                        go_meet
                        case rel => exact ⟨_, _, t, t, rfl, HML, HM⟩
                | false =>
                  as_aux_lemma =>
                  go_wp2_with fail
                  go_meet
                  case rel =>
                    exact ⟨ba, bb, bn, bc, rfl, Lib.hid ⟨HA.out.1, HA.out.2.2.1⟩, Lib.hid ⟨_, HL5.out, .inr rfl, by rw [HCS.out]; exact HK5.out, (HA.out.2.2.2.2.1.below HL5.out.bl).more HL5.out.bl.size, fun a e h => .inl (by
                      obtain ⟨a2, e2, h2, _⟩ := HA.out.2.2.2.2.1 0 (List.length_pos_iff.2 h)
                      rw [e] at e2; injection e2 with e2; rw [e2]; exact h2)⟩⟩
              case rest =>
                as_aux_lemma =>
                obtain ⟨A2, bs, nb, cb, rfl, HNB, HR⟩ := hcut
                clear HL5 HK5 d3 d4
                have hg0 : wc.cell? ⟨ga, 0, none⟩ = some (.int .i64 op) := by obtain ⟨E, _, _, hb, _⟩ := HR.out; rw [HCS.out] at hb; exact hb.cell 0
                go_upto_block 6 with fail
                clear hg0
                go_cut [7] from 104 to 327 (fun s7 wx => ∃ (g2 : Nat) (d2 : DK) (m2 : Mod), s7 = .pointer (some ⟨g2, 0, none⟩) ∧ Hid (Loc w gm (fun _ => False) wx g2 d2 m2) ∧ Hid (Inv k S (j + 1) d2 m2))
                case first =>
                  as_aux_lemma =>
                  have hj80 : j ≤ 80 := by omega
                  rename_i J0 K0 hJ0 hK0
                  rcases (show op = 1 ∨ op = 2 ∨ op = 3 ∨ op = 4 ∨ op = 5 ∨ op = 6 ∨ op = 7 ∨ (¬ op = 1 ∧ ¬ op = 2 ∧ ¬ op = 3 ∧ ¬ op = 4 ∧ ¬ op = 5 ∧ ¬ op = 6 ∧ ¬ op = 7) by omega) with e | e | e | e | e | e | e | e
                  · as_aux_lemma => exact dway_1 w c S n gm k HS j g1 d m hj80 hI ad op sec nn ba bb bc wh ka kk kc2 bn kn HA HW hk30 q7 cs ga HCS wc A2 bs nb cb HNB HR _ _ _ _ _ _ _ _ _ _ _ _ _ _ _ _ _ _ _ _ _ _ _ _ _ _ _ _ _ _ _ _ _ _ _ _ _ _ _ _ _ _ _ _ _ _ _ _ _ _ _ _ _ _ _ _ _ _ _ _ _ _ _ _ _ _ _ _ _ _ _ _ _ _ _ _ _ _ _ _ _ _ _ _ _ _ _ _ _ _ _ _ _ _ _ _ _ _ _ _ _ _ _ _ _ _ _ _ _ _ _ _ _ _ _ _ _ _ _ _ _ _ _ _ _ _ _ _ _ _ _ _ _ _ _ _ _ _ _ _ _ _ _ _ _ _ _ _ _ _ _ _ _ _ _ _ _ _ _ _ _ _ _ _ _ _ _ _ _ _ _ _ _ _ _ _ _ _ _ _ _ _ _ _ _ _ _ _ _ _ _ _ _ _ _ _ _ _ _ _ _ _ _ _ _ _ _ _ _ _ _ _ _ _ _ _ _ _ _ _ _ _ _ _ _ _ _ _ _ _ _ _ _ _ _ _ _ _ _ _ _ _ _ _ _ _ _ _ _ _ _ _ _ _ _ _ _ _ _ _ _ _ _ _ _ _ _ _ _ _ _ _ _ _ _ _ _ _ _ _ _ _ _ _ _ _ _ _ _ _ _ _ _ _ _ _ _ _ _ _ _ _ _ _ _ _ _ _ _ _ _ _ _ _ _ _ _ _ _ _ _ _ _ _ _ _ _ _ _ _ _ _ _ _ _ _ _ _ _ _ _ _ _ _ _ _ _ _ _ _ _ _ _ J0 hJ0 K0 hK0 _ e
                  · as_aux_lemma => exact dway_2 w c S n gm k HS j g1 d m hj80 hI ad op sec nn ba bb bc wh ka kk kc2 bn kn HA HW hk30 q7 cs ga HCS wc A2 bs nb cb HNB HR _ _ _ _ _ _ _ _ _ _ _ _ _ _ _ _ _ _ _ _ _ _ _ _ _ _ _ _ _ _ _ _ _ _ _ _ _ _ _ _ _ _ _ _ _ _ _ _ _ _ _ _ _ _ _ _ _ _ _ _ _ _ _ _ _ _ _ _ _ _ _ _ _ _ _ _ _ _ _ _ _ _ _ _ _ _ _ _ _ _ _ _ _ _ _ _ _ _ _ _ _ _ _ _ _ _ _ _ _ _ _ _ _ _ _ _ _ _ _ _ _ _ _ _ _ _ _ _ _ _ _ _ _ _ _ _ _ _ _ _ _ _ _ _ _ _ _ _ _ _ _ _ _ _ _ _ _ _ _ _ _ _ _ _ _ _ _ _ _ _ _ _ _ _ _ _ _ _ _ _ _ _ _ _ _ _ _ _ _ _ _ _ _ _ _ _ _ _ _ _ _ _ _ _ _ _ _ _ _ _ _ _ _ _ _ _ _ _ _ _ _ _ _ _ _ _ _ _ _ _ _ _ _ _ _ _ _ _ _ _ _ _ _ _ _ _ _ _ _ _ _ _ _ _ _ _ _ _ _ _ _ _ _ _ _ _ _ _ _ _ _ _ _ _ _ _ _ _ _ _ _ _ _ _ _ _ _ _ _ _ _ _ _ _ _ _ _ _ _ _ _ _ _ _ _ _ _ _ _ _ _ _ _ _ _ _ _ _ _ _ _ _ _ _ _ _ _ _ _ _ _ _ _ _ _ _ _ _ _ _ _ _ _ _ _ _ _ _ _ _ _ _ _ J0 hJ0 K0 hK0 _ e
                  · as_aux_lemma => exact dway_3 w c S n gm k HS j g1 d m hj80 hI ad op sec nn ba bb bc wh ka kk kc2 bn kn HA HW hk30 q7 cs ga HCS wc A2 bs nb cb HNB HR _ _ _ _ _ _ _ _ _ _ _ _ _ _ _ _ _ _ _ _ _ _ _ _ _ _ _ _ _ _ _ _ _ _ _ _ _ _ _ _ _ _ _ _ _ _ _ _ _ _ _ _ _ _ _ _ _ _ _ _ _ _ _ _ _ _ _ _ _ _ _ _ _ _ _ _ _ _ _ _ _ _ _ _ _ _ _ _ _ _ _ _ _ _ _ _ _ _ _ _ _ _ _ _ _ _ _ _ _ _ _ _ _ _ _ _ _ _ _ _ _ _ _ _ _ _ _ _ _ _ _ _ _ _ _ _ _ _ _ _ _ _ _ _ _ _ _ _ _ _ _ _ _ _ _ _ _ _ _ _ _ _ _ _ _ _ _ _ _ _ _ _ _ _ _ _ _ _ _ _ _ _ _ _ _ _ _ _ _ _ _ _ _ _ _ _ _ _ _ _ _ _ _ _ _ _ _ _ _ _ _ _ _ _ _ _ _ _ _ _ _ _ _ _ _ _ _ _ _ _ _ _ _ _ _ _ _ _ _ _ _ _ _ _ _ _ _ _ _ _ _ _ _ _ _ _ _ _ _ _ _ _ _ _ _ _ _ _ _ _ _ _ _ _ _ _ _ _ _ _ _ _ _ _ _ _ _ _ _ _ _ _ _ _ _ _ _ _ _ _ _ _ _ _ _ _ _ _ _ _ _ _ _ _ _ _ _ _ _ _ _ _ _ _ _ _ _ _ _ _ _ _ _ _ _ _ _ _ _ _ _ _ _ _ _ _ _ _ _ _ _ _ _ J0 hJ0 K0 hK0 _ e
                  · as_aux_lemma => exact dway_4 w c S n gm k HS j g1 d m hj80 hI ad op sec nn ba bb bc wh ka kk kc2 bn kn HA HW hk30 q7 cs ga HCS wc A2 bs nb cb HNB HR _ _ _ _ _ _ _ _ _ _ _ _ _ _ _ _ _ _ _ _ _ _ _ _ _ _ _ _ _ _ _ _ _ _ _ _ _ _ _ _ _ _ _ _ _ _ _ _ _ _ _ _ _ _ _ _ _ _ _ _ _ _ _ _ _ _ _ _ _ _ _ _ _ _ _ _ _ _ _ _ _ _ _ _ _ _ _ _ _ _ _ _ _ _ _ _ _ _ _ _ _ _ _ _ _ _ _ _ _ _ _ _ _ _ _ _ _ _ _ _ _ _ _ _ _ _ _ _ _ _ _ _ _ _ _ _ _ _ _ _ _ _ _ _ _ _ _ _ _ _ _ _ _ _ _ _ _ _ _ _ _ _ _ _ _ _ _ _ _ _ _ _ _ _ _ _ _ _ _ _ _ _ _ _ _ _ _ _ _ _ _ _ _ _ _ _ _ _ _ _ _ _ _ _ _ _ _ _ _ _ _ _ _ _ _ _ _ _ _ _ _ _ _ _ _ _ _ _ _ _ _ _ _ _ _ _ _ _ _ _ _ _ _ _ _ _ _ _ _ _ _ _ _ _ _ _ _ _ _ _ _ _ _ _ _ _ _ _ _ _ _ _ _ _ _ _ _ _ _ _ _ _ _ _ _ _ _ _ _ _ _ _ _ _ _ _ _ _ _ _ _ _ _ _ _ _ _ _ _ _ _ _ _ _ _ _ _ _ _ _ _ _ _ _ _ _ _ _ _ _ _ _ _ _ _ _ _ _ _ _ _ _ _ _ _ _ _ _ _ _ _ _ _ J0 hJ0 K0 hK0 _ e
                  · as_aux_lemma => exact dway_5 w c S n gm k HS j g1 d m hj80 hI ad op sec nn ba bb bc wh ka kk kc2 bn kn HA HW hk30 q7 cs ga HCS wc A2 bs nb cb HNB HR _ _ _ _ _ _ _ _ _ _ _ _ _ _ _ _ _ _ _ _ _ _ _ _ _ _ _ _ _ _ _ _ _ _ _ _ _ _ _ _ _ _ _ _ _ _ _ _ _ _ _ _ _ _ _ _ _ _ _ _ _ _ _ _ _ _ _ _ _ _ _ _ _ _ _ _ _ _ _ _ _ _ _ _ _ _ _ _ _ _ _ _ _ _ _ _ _ _ _ _ _ _ _ _ _ _ _ _ _ _ _ _ _ _ _ _ _ _ _ _ _ _ _ _ _ _ _ _ _ _ _ _ _ _ _ _ _ _ _ _ _ _ _ _ _ _ _ _ _ _ _ _ _ _ _ _ _ _ _ _ _ _ _ _ _ _ _ _ _ _ _ _ _ _ _ _ _ _ _ _ _ _ _ _ _ _ _ _ _ _ _ _ _ _ _ _ _ _ _ _ _ _ _ _ _ _ _ _ _ _ _ _ _ _ _ _ _ _ _ _ _ _ _ _ _ _ _ _ _ _ _ _ _ _ _ _ _ _ _ _ _ _ _ _ _ _ _ _ _ _ _ _ _ _ _ _ _ _ _ _ _ _ _ _ _ _ _ _ _ _ _ _ _ _ _ _ _ _ _ _ _ _ _ _ _ _ _ _ _ _ _ _ _ _ _ _ _ _ _ _ _ _ _ _ _ _ _ _ _ _ _ _ _ _ _ _ _ _ _ _ _ _ _ _ _ _ _ _ _ _ _ _ _ _ _ _ _ _ _ _ _ _ _ _ _ _ _ _ _ _ _ _ _ J0 hJ0 K0 hK0 _ e
                  · as_aux_lemma => exact dway_6 w c S n gm k HS j g1 d m hj80 hI ad op sec nn ba bb bc wh ka kk kc2 bn kn HA HW hk30 q7 cs ga HCS wc A2 bs nb cb HNB HR _ _ _ _ _ _ _ _ _ _ _ _ _ _ _ _ _ _ _ _ _ _ _ _ _ _ _ _ _ _ _ _ _ _ _ _ _ _ _ _ _ _ _ _ _ _ _ _ _ _ _ _ _ _ _ _ _ _ _ _ _ _ _ _ _ _ _ _ _ _ _ _ _ _ _ _ _ _ _ _ _ _ _ _ _ _ _ _ _ _ _ _ _ _ _ _ _ _ _ _ _ _ _ _ _ _ _ _ _ _ _ _ _ _ _ _ _ _ _ _ _ _ _ _ _ _ _ _ _ _ _ _ _ _ _ _ _ _ _ _ _ _ _ _ _ _ _ _ _ _ _ _ _ _ _ _ _ _ _ _ _ _ _ _ _ _ _ _ _ _ _ _ _ _ _ _ _ _ _ _ _ _ _ _ _ _ _ _ _ _ _ _ _ _ _ _ _ _ _ _ _ _ _ _ _ _ _ _ _ _ _ _ _ _ _ _ _ _ _ _ _ _ _ _ _ _ _ _ _ _ _ _ _ _ _ _ _ _ _ _ _ _ _ _ _ _ _ _ _ _ _ _ _ _ _ _ _ _ _ _ _ _ _ _ _ _ _ _ _ _ _ _ _ _ _ _ _ _ _ _ _ _ _ _ _ _ _ _ _ _ _ _ _ _ _ _ _ _ _ _ _ _ _ _ _ _ _ _ _ _ _ _ _ _ _ _ _ _ _ _ _ _ _ _ _ _ _ _ _ _ _ _ _ _ _ _ _ _ _ _ _ _ _ _ _ _ _ _ _ _ _ _ _ J0 hJ0 K0 hK0 _ e
                  · as_aux_lemma => exact dway_7 w c S n gm k HS j g1 d m hj80 hI ad op sec nn ba bb bc wh ka kk kc2 bn kn HA HW hk30 q7 cs ga HCS wc A2 bs nb cb HNB HR _ _ _ _ _ _ _ _ _ _ _ _ _ _ _ _ _ _ _ _ _ _ _ _ _ _ _ _ _ _ _ _ _ _ _ _ _ _ _ _ _ _ _ _ _ _ _ _ _ _ _ _ _ _ _ _ _ _ _ _ _ _ _ _ _ _ _ _ _ _ _ _ _ _ _ _ _ _ _ _ _ _ _ _ _ _ _ _ _ _ _ _ _ _ _ _ _ _ _ _ _ _ _ _ _ _ _ _ _ _ _ _ _ _ _ _ _ _ _ _ _ _ _ _ _ _ _ _ _ _ _ _ _ _ _ _ _ _ _ _ _ _ _ _ _ _ _ _ _ _ _ _ _ _ _ _ _ _ _ _ _ _ _ _ _ _ _ _ _ _ _ _ _ _ _ _ _ _ _ _ _ _ _ _ _ _ _ _ _ _ _ _ _ _ _ _ _ _ _ _ _ _ _ _ _ _ _ _ _ _ _ _ _ _ _ _ _ _ _ _ _ _ _ _ _ _ _ _ _ _ _ _ _ _ _ _ _ _ _ _ _ _ _ _ _ _ _ _ _ _ _ _ _ _ _ _ _ _ _ _ _ _ _ _ _ _ _ _ _ _ _ _ _ _ _ _ _ _ _ _ _ _ _ _ _ _ _ _ _ _ _ _ _ _ _ _ _ _ _ _ _ _ _ _ _ _ _ _ _ _ _ _ _ _ _ _ _ _ _ _ _ _ _ _ _ _ _ _ _ _ _ _ _ _ _ _ _ _ _ _ _ _ _ _ _ _ _ _ _ _ _ _ _ J0 hJ0 K0 hK0 _ e
                  · as_aux_lemma => exact dway_8 w c S n gm k HS j g1 d m hj80 hI ad op sec nn ba bb bc wh ka kk kc2 bn kn HA HW hk30 q7 cs ga HCS wc A2 bs nb cb HNB HR _ _ _ _ _ _ _ _ _ _ _ _ _ _ _ _ _ _ _ _ _ _ _ _ _ _ _ _ _ _ _ _ _ _ _ _ _ _ _ _ _ _ _ _ _ _ _ _ _ _ _ _ _ _ _ _ _ _ _ _ _ _ _ _ _ _ _ _ _ _ _ _ _ _ _ _ _ _ _ _ _ _ _ _ _ _ _ _ _ _ _ _ _ _ _ _ _ _ _ _ _ _ _ _ _ _ _ _ _ _ _ _ _ _ _ _ _ _ _ _ _ _ _ _ _ _ _ _ _ _ _ _ _ _ _ _ _ _ _ _ _ _ _ _ _ _ _ _ _ _ _ _ _ _ _ _ _ _ _ _ _ _ _ _ _ _ _ _ _ _ _ _ _ _ _ _ _ _ _ _ _ _ _ _ _ _ _ _ _ _ _ _ _ _ _ _ _ _ _ _ _ _ _ _ _ _ _ _ _ _ _ _ _ _ _ _ _ _ _ _ _ _ _ _ _ _ _ _ _ _ _ _ _ _ _ _ _ _ _ _ _ _ _ _ _ _ _ _ _ _ _ _ _ _ _ _ _ _ _ _ _ _ _ _ _ _ _ _ _ _ _ _ _ _ _ _ _ _ _ _ _ _ _ _ _ _ _ _ _ _ _ _ _ _ _ _ _ _ _ _ _ _ _ _ _ _ _ _ _ _ _ _ _ _ _ _ _ _ _ _ _ _ _ _ _ _ _ _ _ _ _ _ _ _ _ _ _ _ _ _ _ _ _ _ _ _ _ _ _ _ _ _ _ J0 hJ0 K0 hK0 _ e
                case rest =>
                  as_aux_lemma =>
                  obtain ⟨g2, d2, m2, rfl, HL2, HI2⟩ := hcut
                  have hr := HI2.out.rr
                  obtain ⟨kA2, kc3, wA2, wc3, eA2, ec3, hb⟩ := HL2.out.cells
                  have c2 : wc.cell? ⟨gm, 2, none⟩ = some (.slice wA2 m2.wait.length wc3) := hb.cell 2
                  have c3 : wc.cell? ⟨gm, 3, none⟩ = some (.bool m2.off) := hb.cell 3
                  have c7 : wc.cell? ⟨gm, 7, none⟩ = some (.int .i64 m2.writes) := hb.cell 7
                  obtain ⟨x2, hx2⟩ := HL2.out
                  have HCk := Lib.hid (fun Q a0 => chk_reg Q a0 wc w.heap.size g2 gm m2.wait.length m2.writes wc3 wA2 m2.off (fun q => Mx gm x2 m2 q ∨ False) d2 hx2.dx hb.lt c2 c3 c7 hr.off (by rw [hr.pend]) hr.writes)
                  clear hr hb c2 c3 c7 HR HNB hx2
                  go_wp2_with fail
                  refine HCk.out _ _ rfl rfl rfl ?_
                  intro vals w9 hG h327
                  unfold IsV at h327
                  simp only [putD, Act.put, List.setIfInBounds_toArray, List.set_cons_zero, List.set_cons_succ, h327]
                  have HF := Lib.hid (HL2.out.below hG)
                  clear h327 hG HCk
                  go_wp2_with fail
                  go_roundw
                  case rel => exact ⟨j + 1, g2, d2, m2, by omega, by go_num, rfl, HF, HI2⟩
                  case measure => (first | (simp [intOf]; done) | (simp [intOf]; omega))
            · have HKe := Lib.hid (fun W => keeps_c W ka kn kc2 false (by simp; omega))
              go_wp2_with fail
              refine Calls.mono (HKe.out _) ?_
              rintro e w5 ⟨rfl, rfl⟩
              go_wp2_with fail
              go_ret
              exact ⟨rfl, HBl.out⟩
        · as_aux_lemma =>
          obtain rfl : j = n := by omega
          obtain ⟨x, hx⟩ := hL.out
          have hr := hI.out.rr
          obtain ⟨ks, hks⟩ : ∃ ks, ks = m.kept := ⟨_, rfl⟩
          have hkl : ks.length = k := by rw [hks]; exact hI.out.n
          have hkr := hx.md.kept
          have hkS : ∀ y ∈ ks, y.length = S := by rw [hks, ← hI.out.s]; exact hr.kl
          rw [← hks] at hkr
          obtain ⟨adk, hak⟩ : ∃ adk, x.kA = some adk := by
            obtain ⟨a, e, _⟩ := hkr 0 (by omega)
            exact ⟨a, e⟩
          have hgc : wr.cell? ⟨gm, 1, none⟩ = some (.slice (some adk) k x.kc) := by
            have := hx.md.blk.cell 1
            rw [this]
            show some (Value.slice x.kA m.kept.length x.kc) = _
            rw [hak, ← hks, hkl]
          have HK := Lib.hid (And.intro hkl (And.intro hkr (And.intro hkS hak)))
          have HSh := Lib.hid (xshape_c hx.dx)
          have hds : d.secs = k := by rw [hr.secs]; exact hI.out.n
          have hdS : d.size = S := by rw [hr.size]; exact hI.out.s
          have hdk : d.kept = ks.flatten := by rw [hks]; exact hr.kept
          rw [hds, hdS] at HSh
          have HBy := Lib.hid (fun W (hb : Below wr.heap.size wr W) => xbytes_c (hx.dx.below hb))
          rw [hdk] at HBy
          have HBl := Lib.hid hx.bl
          clear hx hr hks hkl hkr hkS hak hds hdS hdk hL hI
          go_wp2_with fail
          go_loopw [25, 26] (fun sv i wz => ∃ t : Nat, t ≤ k ∧ i = .int .i64 t ∧ sv = .string (strB (ks.take t).flatten) ∧ wz = wr) (fun _ i _ => k - (intOf i).toNat)
          case atStart => exact ⟨0, Nat.zero_le _, rfl, rfl, rfl⟩
          case round =>
            obtain ⟨t, ht, rfl, rfl, rfl⟩ := hrel
            by_cases hlt2 : t < k
            · as_aux_lemma =>
              have p1 : (0 : Int) ≤ (t : Int) := by omega
              have p2 : (t : Int) < (k : Int) := by omega
              have htl : t < ks.length := by rw [HK.out.1]; exact hlt2
              obtain ⟨ad3, e3, hb3, hc3⟩ := HK.out.2.1 t htl
              rw [HK.out.2.2.2] at e3
              injection e3 with e3
              subst e3
              obtain ⟨y, hy⟩ : ∃ y, y = ks[t] := ⟨_, rfl⟩
              rw [← hy] at hc3
              unfold stV at hc3
              have hst : strB (ks.take t).flatten ++ strB y = strB (ks.take (t + 1)).flatten := by
                rw [strB_app, List.take_succ_eq_append_getElem htl, hy, List.flatten_append]
                simp
              have hl1 : (ks.take t).flatten.length = t * S := by rw [fl_len S _ (fun z hz => HK.out.2.2.1 z (List.mem_of_mem_take hz)), List.length_take, Nat.min_eq_left (by omega)]
              have hl2 : y.length = S := by rw [hy]; exact HK.out.2.2.1 _ (List.getElem_mem htl)
              have hl3 : t * S ≤ 64 * 256 := Nat.mul_le_mul (by have := HS.out.2.2; omega) HS.out.1.2
              obtain ⟨s1', hs1⟩ : ∃ s, s = strB (ks.take t).flatten := ⟨_, rfl⟩
              obtain ⟨s2', hs2⟩ : ∃ s, s = strB y := ⟨_, rfl⟩
              have hcat : ∀ W, (Op.stringOp .add s1' s2').run Try.prog W = .ok (.string (s1' ++ s2')) W := fun W => run_string_add_sum (P := Try.prog) (w := W) s1' s2' (by
                rw [hs1, hs2, strB_size, strB_size, hl1, hl2]
                have := HS.out.1.2
                omega)
              rw [← hs1, ← hs2] at hst
              rw [← hs2] at hc3
              rw [← hs1]
              have HST := Lib.hid hst
              clear hst hl1 hl2 hl3 hs1 hs2 hy htl
              go_wp2_with fail
              go_roundw
              case rel => exact ⟨t + 1, by omega, by go_num, by rw [← HST.out], by first | rfl | trivial⟩
              case measure => (first | (simp [intOf]; done) | (simp [intOf]; omega))
            · obtain rfl : t = k := by omega
              have hall : ks.take t = ks := List.take_of_length_le (by rw [HK.out.1]; exact Nat.le_refl _)
              rw [hall]
              clear hgc hall hlt2
              go_wp2_with fail
              refine Calls.mono HSh.out ?_
              rintro e w7 ⟨rfl, hb7⟩
              have HB7 := Lib.hid hb7
              clear hb7 HSh
              go_wp2_with fail
              refine Calls.mono (HBy.out _ HB7.out) ?_
              rintro e w8 ⟨A8, c8, rfl, hc8, ho8, hb8⟩
              have hcv := str_conv ks.flatten A8 c8 _ w8 ho8.rd2
              obtain ⟨N8, hN8⟩ : ∃ N, N = ks.flatten.length := ⟨_, rfl⟩
              obtain ⟨s8, hs8⟩ : ∃ s, s = strB ks.flatten := ⟨_, rfl⟩
              rw [← hN8, ← hs8] at hcv
              rw [← hN8, ← hs8]
              have HB8 := Lib.hid (HBl.out.trans ((HB7.out.trans (hb8.mono HB7.out.size)).mono HBl.out.size))
              clear hc8 ho8 hb8 hN8 hs8 HBy
              go_wp2_with fail
              go_ret
              exact ⟨rfl, HB8.out⟩
theorem dp_walk (w : World) (a : Int) (wa : (Lit.int .i64 a).wf = true) (b : Int) (wb : (Lit.int .i64 b).wf = true) (A : Option Addr) (l : List DA) (c : Nat) (hc : l.length ≤ c) (hm : c ≤ maxLen) (hL : Das w w.heap.size A l) : Calls Try.prog 3 #[.int .i64 a, .int .i64 b, .slice A l.length c] w (TruP (.bool true) w) := by
  by_cases hl : 80 < l.length
  · exact dp_long w A _ c a b hl
  by_cases h1 : (64 < a ∧ a ≤ 16384) ∨ (256 < b ∧ b ≤ 1024)
  · exact dp_range w A _ c a b (by omega) h1
  have h3 : ¬ (64 < a ∧ a ≤ 16384) := fun e => h1 (.inl e)
  have h4 : ¬ (256 < b ∧ b ≤ 1024) := fun e => h1 (.inr e)
  cases h : okS a b with
  | false => exact dp_bad w A _ c a b (by omega) h3 h4 h
  | true =>
    unfold okS at h
    simp only [Bool.and_eq_true, decide_eq_true_eq] at h
    obtain ⟨e1, e2, e3, e4⟩ := h
    obtain ⟨secs, rfl⟩ : ∃ k : Nat, a = (k : Int) := ⟨a.toNat, by omega⟩
    obtain ⟨S, rfl⟩ : ∃ k : Nat, b = (k : Int) := ⟨b.toNat, by omega⟩
    exact dp_ok w A l c secs S (by omega) hL ⟨by omega, by omega⟩ ⟨by omega, by omega⟩
end Go.Proofs.Ytfcbmdmkdjaoaaa
namespace Go.Proofs.Ytfcbmdmkdjaoaaa.diskPlays
open Go.ChangeShapes Go.WideShapes Go.ChangeAt Go.RowKit
open Go.ChangeMaps (open_string shut_string)
set_option linter.unusedVariables false
set_option maxRecDepth 100000 in
theorem lifted (os : Os) (started : os.Started) (H : Type) (enc : TypeId × Value → H) :
    ReturnsInHanded {} Try.checked os 3 .any (Rows.diskPlaysSpec.pre6 enc Try.prog Try.f3 Rows.diskPlaysRow.domain false) (Rows.diskPlaysSpec.post enc Try.prog Try.f3 false true false false) := by
  refine returnsInHanded_of_change (C := Try.checked) own started (by kernel_rfl) Try.func3
    (ChangeSpec.witness6 (enc := enc) (C := Try.checked) false ⟨#[], #[.int .i64 0, .int .i64 0, .slice none 0 0], []⟩ 8 (by kernel_rfl) (by kernel_rfl) (by kernel_rfl) (by kernel_rfl)) ?_
  intro W base args ds gs before hval0 hW hcnd _
  have hval : ∀ (j : Nat) t v, Try.f3.params[j]? = some t → args[j]? = some v → Value.okWide Try.prog W .any base t v := hval0
  have hW' := hW
  obtain ⟨p, q, hA0, hV, rfl, hfz, hnd⟩ := hW
  have hA : DataW.TrodAll enc Try.prog W 0 (fun _ => true) true Try.f3.params.toList args.toList ds p := hA0
  rw [Try.params3] at hA hval
  obtain ⟨v0, vs0, d0, ds0, p0, q0, hargs, rfl, rfl, h0, r0⟩ := trodAll_cons hA
  obtain ⟨v1, vs1, d1, ds1, p1, q1, rfl, rfl, rfl, h1, r1⟩ := trodAll_cons r0
  obtain ⟨v2, vs2, d2, ds2, p2, q2, rfl, rfl, rfl, h2, r2⟩ := trodAll_cons r1
  obtain ⟨rfl, rfl, rfl⟩ := trodAll_nil r2
  obtain rfl : args = #[v0, v1, v2] := by cases args; simp_all
  obtain ⟨rfl, rfl⟩ := trodVars_none hV
  have k0 := h0
  have lt0 : ∀ x ∈ p0, x.block < W.heap.size := by obtain ⟨m, hm⟩ := k0; exact DataW.trod_lt m _ _ _ hm
  obtain ⟨a0, e0v, _, _, w0⟩ := open_int Try.underlying3 (hval 0 3 v0 rfl rfl) h0; subst e0v
  have k1 := h1
  have lt1 : ∀ x ∈ p1, x.block < W.heap.size := by obtain ⟨m, hm⟩ := k1; exact DataW.trod_lt m _ _ _ hm
  obtain ⟨a1, e1v, _, _, w1⟩ := open_int Try.underlying3 (hval 1 3 v1 rfl rfl) h1; subst e1v
  have k2 := h2
  have lt2 : ∀ x ∈ p2, x.block < W.heap.size := by obtain ⟨m, hm⟩ := k2; exact DataW.trod_lt m _ _ _ hm
  obtain ⟨A2, a2, c2, e2v, g2, m2, w2⟩ := open_rows_Act (hval 2 22 v2 rfl rfl) h2; subst e2v
  clear hA0 hval0
  refine (dp_walk W a0 w0 a1 w1 A2 a2 c2 g2 m2 w2).mono fun e W' ⟨he, bel⟩ => ?_
  subst he
  exact ⟨_, rfl, _, _, _, [], _, [], hW', trodAll_mk1 (shut_bool Try.underlying4 _), (trodAll_cons_mk (Below.trod laidOut (by kernel_rfl) (of_decide_eq_true (by kernel_rfl)) k0 bel lt0) (trodAll_cons_mk (Below.trod laidOut (by kernel_rfl) (of_decide_eq_true (by kernel_rfl)) k1 bel lt1) (trodAll_cons_mk (Below.trod laidOut (by kernel_rfl) (of_decide_eq_true (by kernel_rfl)) k2 bel lt2) trodAll_mk0))), rfl, bel.frame _, fun h => by cases h⟩
theorem over : Rows.diskPlaysRow.holds Try.pinned (OpenSpec.ofChange Rows.diskPlaysSpec) :=
  OpenClaim.holds_of_wide 3 Try.f3 rfl rfl rfl rfl rfl rfl rfl ⟨rfl, rfl, rfl, rfl, rfl⟩ rfl rfl rfl rfl rfl (by kernel_rfl) Try.func3 (by kernel_rfl)
    (of_decide_eq_true (by kernel_rfl)) (by unfold Func.isWrapper; first | (rw [if_pos (by decide +kernel)]; kernel_rfl) | (rw [if_neg (by decide +kernel)]; exact ⟨rfl, rfl⟩))
    (fun os started H enc _ => lifted os started H enc)
theorem proved : Rows.DiskPlaysSaid := over
end Go.Proofs.Ytfcbmdmkdjaoaaa.diskPlays
