/- The law SlotsCuts of layer 7 returns true for every argument: its loops. No conditions. -/
import Derived.Test.YtjcpbhjmmnpjnaaZc2
namespace Go.Proofs.Ytjcpbhjmmnpjnaa
set_option linter.unusedVariables false
set_option linter.unusedSimpArgs false
open Go.RowKit Go.Maps
set_option maxRecDepth 100000
set_option maxHeartbeats 80000000
theorem sc_in (w : World) (ad : Addr) (l : List Bl) (L c : Nat) (at_ : Int) (A2 : Option Addr) (kp : List Bool) (K c2 : Nat) (h1 : 1 ≤ L) (h2 : L ≤ 10) (h3 : 0 ≤ at_) (h4 : at_ ≤ 30) (h5 : K ≤ 300) (hl : l.length = L) (hkl : kp.length = K) (hc : L ≤ c) (hr : Bls w w.heap.size (some ad) l) (x : Bl) (hx : l[0]? = some x) (s lo n : Nat) (hxs : x.s = s ∧ x.l = lo ∧ x.n = n) (hok : OkG s lo n) (hn : n ≤ 600) (hs : s ≤ 256) (hr2 : Rd boV w w.heap.size A2 kp) (hm2 : ∀ a, A2 = some a → a.block < w.heap.size) :
    Calls Try.prog 4 #[.slice (some ad) L c, .int .i64 at_, .slice A2 K c2] w (TruP (.bool true) w) := by
  have HK := Lib.hid (fun W => keeps_c A2 K c2 W)
  rw [show decide ((K : Int) ≤ 300) = true from by simp; omega] at HK
  have HR := Lib.hid hr
  have HL := Lib.hid (And.intro hl (And.intro hkl (And.intro h2 (And.intro h4 h5))))
  have q1 : ((L : Int) == 0) = false := by simp; omega
  have q2 : decide ((10 : Int) < (L : Int)) = false := by simp; omega
  have q3 : decide (at_ < 0) = false := by simp; omega
  have q4 : decide ((30 : Int) < at_) = false := by simp; omega
  have p1 : (1 : Int) ≤ (L : Int) := by omega
  have p3 : (L : Int) ≤ 10 := by omega
  have HF := Lib.hid (show ∀ W, Calls Try.prog 14 #[.agg #[.int .i64 s, .int .i64 lo, .int .i64 n]] W fun e w' => ∃ g, e = .returned (.pointer (some ⟨g, 0, none⟩)) ∧ DiskX W.heap.size (fun _ => False) w' g (fr0 s lo n) ∧ Below W.heap.size W w' from fun W => fresh_ok s lo n W hok hn hs)
  have HX := Lib.hid hx
  have HOK := Lib.hid hok
  have HRD2 := Lib.hid (And.intro hr2 hm2)
  clear hx hok hn hs hr2 hm2
  clear hr hl hkl h2 h5
  go_enter Try.func4, Try.ntmps4
  go_wp2_with fail
  refine Calls.mono (known7_c _) ?_
  rintro e w0 ⟨rfl, b1⟩
  have HB0 := Lib.hid b1
  have HR0 := Lib.hid (HR.out.below b1)
  clear b1
  go_wp2_with fail
  refine Calls.mono (HK.out _) ?_
  rintro e w1 ⟨rfl, hw1⟩
  have HB1 := Lib.hid (show Below w.heap.size w w1 from by rw [hw1]; exact HB0.out)
  have HR1 := Lib.hid (show Bls w1 w.heap.size (some ad) l from by rw [hw1]; exact HR0.out)
  clear hw1 HB0 HR0 HR
  obtain ⟨ad', e, m⟩ := HR1.out 0 (by have := HL.out.1; omega)
  injection e with e
  subst e
  have hx0 : l[0]'(by have := HL.out.1; omega) = x := by have := HX.out; rw [List.getElem?_eq_getElem (by have := HL.out.1; omega)] at this; injection this
  rw [hx0] at m
  have z : ad.add (0 * 7) = ad := by simp [Addr.add]
  have k1 := m.c1
  have k2 := m.c2
  have k3 := m.c3
  rw [z] at k1 k2 k3
  rw [hxs.1] at k1
  have k2' : w1.cell? ⟨ad.block, ad.off + 1 + 1, none⟩ = some (.int .i64 lo) := by rw [← hxs.2.1]; exact k2
  have k3' : w1.cell? ⟨ad.block, ad.off + 1 + 2, none⟩ = some (.int .i64 n) := by rw [← hxs.2.2]; exact k3
  have hlt : ad.block < w1.heap.size := Nat.lt_of_lt_of_le m.blk HB1.out.size
  clear z hx0 m k2 k3 hxs
  obtain ⟨W2, hW2⟩ : ∃ W, W = w1.alloc (.cells #[.int .i64 s, .int .i64 lo, .int .i64 n] 30) := ⟨_, rfl⟩
  obtain ⟨G7, hG7⟩ : ∃ k, k = w1.heap.size := ⟨_, rfl⟩
  have H7 := Lib.hid (show Bk W2 G7 30 #[.int .i64 s, .int .i64 lo, .int .i64 n] ∧ Below w.heap.size w W2 ∧ w.heap.size ≤ G7 ∧ G7 < W2.heap.size ∧ Bls W2 w.heap.size (some ad) l from by
    rw [hW2, hG7]
    exact ⟨Bk.new w1 _ _, HB1.out.alloc HB1.out.size _, HB1.out.size, by simp, HR1.out.below ((Below.refl _ _).alloc HB1.out.size _)⟩)
  have HW2 := Lib.hid hW2
  have HG7 := Lib.hid hG7
  clear hW2 hG7
  go_wp2_with fail
  rw [← HW2.out, ← HG7.out]
  refine Calls.mono (HF.out _) ?_
  rintro e w3 ⟨g, rfl, d3, b3⟩
  obtain ⟨B, hB⟩ : ∃ k, k = W2.heap.size := ⟨_, rfl⟩
  rw [← hB] at d3
  obtain ⟨G9, hG9⟩ : ∃ k, k = w3.heap.size := ⟨_, rfl⟩
  obtain ⟨W4, hW4⟩ : ∃ W, W = (w3.alloc (.cells #[.int .u64 0, .int .i64 0, .int .i64 0, .int .i64 0, .int .i64 0, .int .i64 0, .int .u64 0, .int .u64 0, .int .i64 0, .int .i64 0, .int .i64 0, .int .i64 0, .int .i64 0, .int .u64 0] 50)).alloc (.cells #[.bool false, .bool false] 34) := ⟨_, rfl⟩
  have b4 : Below w3.heap.size w3 W4 := by rw [hW4]; exact ((Below.refl _ _).alloc (Nat.le_refl _) _).alloc (by simp) _
  have H4 := Lib.hid (show DiskX B (fun k => k = G9 ∨ k = G9 + 1) W4 g (fr0 s lo n) ∧ Bk W4 G7 30 #[.int .i64 s, .int .i64 lo, .int .i64 n] ∧ Bk W4 G9 50 (c14 z0 z0) ∧ Bk W4 (G9 + 1) 34 #[.bool false, .bool false] ∧ Below w.heap.size w W4 ∧ (w.heap.size ≤ G7 ∧ G7 < B ∧ B ≤ G9 ∧ G9 + 2 = W4.heap.size) ∧ Bls W4 w.heap.size (some ad) l ∧ Rd boV W4 W4.heap.size A2 kp from by
    have h3 : Below w.heap.size w w3 := H7.out.2.1.trans (b3.mono H7.out.2.1.size)
    have h4 : Below w.heap.size w W4 := h3.trans (b4.mono h3.size)
    have hs3 := b3.size
    refine ⟨(d3.besides (fun k e => .inr (by rcases e with e | e <;> omega))).below b4, (H7.out.1.below b3 H7.out.1.lt).below b4 (Nat.lt_of_lt_of_le H7.out.1.lt hs3), ?_, ?_, h4, ⟨H7.out.2.2.1, by rw [hB]; exact H7.out.2.2.2.1, by rw [hB, hG9]; exact hs3, by rw [hW4, hG9]; simp⟩, (H7.out.2.2.2.2.below (b3.mono H7.out.2.1.size)).below (b4.mono h3.size), (HRD2.out.1.below h4).more h4.size⟩
    · rw [hW4, hG9, z0_14]; exact (Bk.new w3 _ _).alloc _
    · rw [hW4, hG9]
      have := Bk.new (w3.alloc (.cells #[.int .u64 0, .int .i64 0, .int .i64 0, .int .i64 0, .int .i64 0, .int .i64 0, .int .u64 0, .int .u64 0, .int .i64 0, .int .i64 0, .int .i64 0, .int .i64 0, .int .i64 0, .int .u64 0] 50)) 34 #[.bool false, .bool false]
      simpa using this)
  have HW4 := Lib.hid hW4
  have HG9 := Lib.hid hG9
  clear d3 b3 b4 hW4 hG9 hB H7 HW2 HG7 k1 k2' k3' hlt
  have HAR := Lib.hid (xarm_c H4.out.1 (fun k e => by have := H4.out.2.2.2.2.2.1; rcases e with e | e <;> omega) (by have := H4.out.2.2.2.2.2.1; omega) at_ (by omega) A2 kp c2 H4.out.2.2.2.2.2.2.2 (fun a e => .inl (by have := HRD2.out.2 a e; have := H4.out.2.2.2.2.2.1; omega)) (by have := HL.out.2.1; have := HL.out.2.2.2.2; omega))
  rw [HL.out.2.1] at HAR
  go_wp2_with fail
  rw [← HW4.out, ← HG9.out]
  refine Calls.mono HAR.out ?_
  rintro e w5 ⟨rfl, d5, k5⟩
  obtain ⟨dk, hdk⟩ : ∃ d, d = (fr0 s lo n).arm (max at_ 1).toNat kp := ⟨_, rfl⟩
  rw [← hdk] at d5
  obtain ⟨G12, hG12⟩ : ∃ k, k = w5.heap.size := ⟨_, rfl⟩
  obtain ⟨W6, hW6⟩ : ∃ W, W = w5.alloc (.cells #[.int .u64 0, .int .i64 0, .int .i64 0, .int .i64 0, .int .i64 0, .int .i64 0, .int .u64 0] 41) := ⟨_, rfl⟩
  have H6 := Lib.hid (show ScI w W6 B G7 G9 (G9 + 1) G12 g ad l s lo n dk none none z0 ∧ dk.off = false ∧ dk.writes = 0 ∧ Hol dk s lo n none none from by
    have hg := H4.out.2.2.2.2.2.1
    have b6 := Gw.alloc w5 (.cells #[.int .u64 0, .int .i64 0, .int .i64 0, .int .i64 0, .int .i64 0, .int .i64 0, .int .u64 0] 41)
    rw [← hW6] at b6
    have hsz : w5.heap.size + 1 = W6.heap.size := by rw [hW6]; simp
    have hB5 : Below w.heap.size w w5 := H4.out.2.2.2.2.1.trans (k5.below (B := w.heap.size) (by omega) (fun k e => by have := e.1; omega))
    have hd6 : DiskX B (fun k => k = G9 ∨ k = G9 + 1 ∨ k = G12) w5 g dk := d5.besides (fun k e => by
      rcases e with e | e | e
      · exact .inl (.inl e)
      · exact .inl (.inr e)
      · exact .inr (by omega))
    refine ⟨⟨hd6.below b6, (k5.bk H4.out.2.1 (fun e => by have := e.1; omega)).below b6 ?_, (k5.bk H4.out.2.2.1 (fun e => e.2 (.inl rfl))).below b6 ?_, (k5.bk H4.out.2.2.2.1 (fun e => e.2 (.inr rfl))).below b6 ?_, ?_, ?_, hB5.trans (b6.mono hB5.size), ?_⟩, by rw [hdk]; rfl, by rw [hdk]; rfl, by rw [hdk]; exact (Hol.start HOK.out).same rfl rfl rfl rfl⟩
    · have := k5.size; omega
    · have := k5.size; omega
    · have := k5.size; omega
    · rw [hW6, hG12, z0_cells]; exact Bk.new w5 _ _
    · exact (H4.out.2.2.2.2.2.2.1.below (k5.below (B := w.heap.size) (by omega) (fun k e => by have := e.1; omega))).below (b6.mono hB5.size)
    · have := k5.size; omega)
  have HW6 := Lib.hid hW6
  have HG12 := Lib.hid hG12
  clear d5 k5 hdk hG12 hW6 H4 HW4 HG9 HAR HF HR1 HB1 HRD2 HX
  go_wp2_with fail
  rw [← HW6.out, ← HG12.out]
  have HSI := Lib.hid (show W6.heap.size ≤ W6.heap.size from Nat.le_refl _)
  go_loopw [11, 13] (fun cf i wr => ∃ (k : Nat) (cb : Bool) (d : DK) (o0 o1 : Option Sb) (t : Sb), k ≤ L ∧ cf = .bool cb ∧ i = .int .i64 k ∧ ScI w wr B G7 G9 (G9 + 1) G12 g ad l s lo n d o0 o1 t ∧ Hol d s lo n o0 o1 ∧ d.off = cb ∧ d.writes ≤ k) (fun _ i _ => L - (Go.RowKit.intOf i).toNat)
  case atStart => exact ⟨0, false, dk, none, none, z0, by omega, rfl, rfl, H6.out.1, H6.out.2.2.2, H6.out.2.1, by rw [H6.out.2.2.1]; exact Nat.le_refl _⟩
  case round =>
    obtain ⟨k, cb, d, o0, o1, t, hk, rfl, rfl, hI, hH, hoff, hwr⟩ := hrel
    have HI := Lib.hid hI
    have HH := Lib.hid (And.intro hH (And.intro hoff hwr))
    clear hI hH hoff hwr H6 HW6 HG12 HSI
    by_cases hgo : k < L ∧ cb = false
    · obtain ⟨hlt, rfl⟩ := hgo
      have pk : (k : Int) < (L : Int) := by omega
      have pk0 : (0 : Int) ≤ (k : Int) := by omega
      have qk : decide ((k : Int) < (L : Int)) = true := by simp; omega
      obtain ⟨ad', e, m⟩ := HI.out.row k (by have := HL.out.1; omega)
      injection e with e
      subst e
      obtain ⟨yy, hyy⟩ : ∃ y, y = l[k]'(by have := HL.out.1; omega) := ⟨_, rfl⟩
      rw [← hyy] at m
      clear hyy
      obtain ⟨yep, ys, yl, yn, ysp, ywd, ylg⟩ := yy
      by_cases hg : 0 ≤ ysp ∧ ysp ≤ 1 ∧ 0 ≤ ywd ∧ ywd ≤ (n : Int)
      · obtain ⟨sp, rfl⟩ : ∃ q : Nat, ysp = q := ⟨ysp.toNat, by omega⟩
        obtain ⟨wd, rfl⟩ : ∃ q : Nat, ywd = q := ⟨ywd.toNat, by omega⟩
        have hsp1 : sp ≤ 1 := by omega
        have hsp2 : wd ≤ n := by omega
        have hsp3 := True.intro
        clear hg
        by_cases ha : d.armed = 1
        · as_aux_lemma =>
            have HEN := Lib.hid (fun W => encode7_c yep s lo n sp wd ylg W HOK.out true (by rw [decide_eq_true]; omega))
            obtain ⟨Gb, hGb⟩ : ∃ q, q = wr.heap.size := ⟨_, rfl⟩
            obtain ⟨Wb, hWb⟩ : ∃ W, W = wr.alloc (.cells #[.int .u64 (U64 yep), .int .i64 s, .int .i64 lo, .int .i64 n, .int .i64 sp, .int .i64 wd, .int .u64 (U64 ylg)] 32) := ⟨_, rfl⟩
            have hbb := Gw.alloc wr (.cells #[.int .u64 (U64 yep), .int .i64 s, .int .i64 lo, .int .i64 n, .int .i64 sp, .int .i64 wd, .int .u64 (U64 ylg)] 32)
            rw [← hWb] at hbb
            have HIb := Lib.hid (HI.out.below hbb)
            have HKb := Lib.hid (show Bk Wb Gb 32 #[.int .u64 (U64 yep), .int .i64 s, .int .i64 lo, .int .i64 n, .int .i64 sp, .int .i64 wd, .int .u64 (U64 ylg)] from by rw [hWb, hGb]; exact Bk.new wr _ _)
            have HWb := Lib.hid hWb
            have HGb := Lib.hid hGb
            obtain ⟨b, hb⟩ : ∃ b : Sb, b = ⟨yep, s, lo, n, sp, wd, ylg⟩ := ⟨_, rfl⟩
            have hgd : b.good := by rw [hb]; exact ⟨okG_in HOK.out, by show sp ≤ 1; omega, by show wd ≤ n; omega⟩
            have hsh : b.s = s ∧ b.l = lo ∧ b.n = n := by rw [hb]; exact ⟨rfl, rfl, rfl⟩
            have hbc : b.cells = #[.int .u64 (U64 yep), .int .i64 s, .int .i64 lo, .int .i64 n, .int .i64 sp, .int .i64 wd, .int .u64 (U64 ylg)] := by rw [hb]; rfl
            have hge := HI.out.ge
            have hDb : DiskX B (fun k => (k = G9 ∨ k = G9 + 1 ∨ k = G12) ∨ k = Gb) Wb g d := (HI.out.disk.besides (fun k e => by rcases e with e | e; exact .inl e; exact .inr (by omega))).below hbb
            have hXb : ∀ q, (fun k => (k = G9 ∨ k = G9 + 1 ∨ k = G12) ∨ k = Gb) q → q < Wb.heap.size := fun q e => by
              have h1 := HKb.out.lt
              have h2 := hbb.size
              rcases e with (e | e | e) | e <;> omega
            have hBb : B ≤ Wb.heap.size := by have := hbb.size; omega
            have hWR := swrite_cut hDb hXb hBb b hgd (HH.out.1.fit b hsh) HH.out.2.1 ha
            have HHN := Lib.hid (show Hol ((d.settled (fun _ => true)).cut d.keep) s lo n o0 o1 from (HH.out.1.cut d.keep).same rfl rfl rfl rfl)
            rw [hbc] at hWR
            have HWR := Lib.hid hWR
            have HBC := Lib.hid hbc
            have HEP := Lib.hid (show (b.at_ : Int) = U64 yep % 2 from by rw [at_mod, hb])
            have HBO := Lib.hid (show ∀ W, Calls Try.prog 12 #[.agg #[.int .u64 (U64 yep), .int .i64 s, .int .i64 lo, .int .i64 n, .int .i64 sp, .int .i64 wd, .int .u64 (U64 ylg)]] W (RetP (.agg #[.int .u64 (U64 yep), .int .i64 s, .int .i64 lo, .int .i64 n, .int .i64 sp, .int .i64 wd, .int .u64 (U64 ylg)]) W) from fun W => by have := of7_c b W; rw [hb] at this; exact this)
            clear hgd hsh hDb hXb hBb hWR hbc hge hb hsp1 hsp2 hsp3
            have c7 := HI.out.b7
            obtain ⟨g0, g1, g2⟩ := c7.three
            have hl7 : G7 < wr.heap.size := c7.lt
            have m0 := m.c0
            have m1 := m.c1
            have m2 := m.c2
            have m3 := m.c3
            have m4 := m.c4
            have m5 := m.c5
            have m6 := m.c6
            clear hbb hWb hGb c7 m
            go_wp2_with fail
            rw [← HWb.out, ← HGb.out]
            refine Calls.mono HWR.out ?_
            clear m0 m1 m2 m3 m4 m5 m6 g0 g1 g2 hl7
            rintro e w2 ⟨rfl, d2, k2⟩
            have HI2 := Lib.hid (HIb.out.turn (X := (fun k => (k = G9 ∨ k = G9 + 1 ∨ k = G12) ∨ k = Gb)) (fun k e => .inl e) d2 k2)
            have HK2 := Lib.hid (k2.bk HKb.out (fun e => e.2 (.inr rfl)))
            clear d2 k2 HWR HIb HKb
            obtain ⟨c0, c1, c2, c3, c4, c5, c6⟩ := HK2.out.seven
            go_wp2_with fail
            refine Calls.mono (HEN.out _) ?_
            rintro e w3 ⟨rfl, b3⟩
            have HI3 := Lib.hid (HI2.out.below b3)
            have HK3 := Lib.hid (HK2.out.below b3 HK2.out.lt)
            clear b3 HI2 HK2 c0 c1 c2 c3 c4 c5 c6
            obtain ⟨c0, c1, c2, c3, c4, c5, c6⟩ := HK3.out.seven
            go_wp2_with fail
            refine Calls.mono (HBO.out _) ?_
            rintro e w4 ⟨rfl, b4⟩
            have HI4 := Lib.hid (HI3.out.below b4)
            clear b4 c0 c1 c2 c3 c4 c5 c6 HI3 HK3
            go_wp2_with (first | (refine wp_stR rfl 41 _ _ rfl G12 #[.int .u64 (U64 yep), .int .i64 s, .int .i64 lo, .int .i64 n, .int .i64 sp, .int .i64 wd, .int .u64 (U64 ylg)] rfl rfl 41 t.cells HI4.out.b12 (by kernel_rfl) rfl (by simp [Value.oneCell']) ?_; intro w5 k5 b5 o5; have HI5 := Lib.hid (HI4.out.torn b (by rw [HBC.out]; exact k5) (b5 _ (Nat.le_refl _)) o5); clear k5 b5 o5))
            go_roundw
            case rel => exact ⟨k + 1, true, (d.settled (fun _ => true)).cut d.keep, o0, o1, b, by omega, rfl, by go_num, HI5.out, HHN.out, rfl, by have := HH.out.2.2; show d.writes ≤ k + 1; omega⟩
            case measure => (first | (simp [Go.RowKit.intOf]; done) | (simp [Go.RowKit.intOf]; omega))
        · as_aux_lemma =>
            have HEN := Lib.hid (fun W => encode7_c yep s lo n sp wd ylg W HOK.out true (by rw [decide_eq_true]; omega))
            obtain ⟨Gb, hGb⟩ : ∃ q, q = wr.heap.size := ⟨_, rfl⟩
            obtain ⟨Wb, hWb⟩ : ∃ W, W = wr.alloc (.cells #[.int .u64 (U64 yep), .int .i64 s, .int .i64 lo, .int .i64 n, .int .i64 sp, .int .i64 wd, .int .u64 (U64 ylg)] 32) := ⟨_, rfl⟩
            have hbb := Gw.alloc wr (.cells #[.int .u64 (U64 yep), .int .i64 s, .int .i64 lo, .int .i64 n, .int .i64 sp, .int .i64 wd, .int .u64 (U64 ylg)] 32)
            rw [← hWb] at hbb
            have HIb := Lib.hid (HI.out.below hbb)
            have HKb := Lib.hid (show Bk Wb Gb 32 #[.int .u64 (U64 yep), .int .i64 s, .int .i64 lo, .int .i64 n, .int .i64 sp, .int .i64 wd, .int .u64 (U64 ylg)] from by rw [hWb, hGb]; exact Bk.new wr _ _)
            have HWb := Lib.hid hWb
            have HGb := Lib.hid hGb
            obtain ⟨b, hb⟩ : ∃ b : Sb, b = ⟨yep, s, lo, n, sp, wd, ylg⟩ := ⟨_, rfl⟩
            have hgd : b.good := by rw [hb]; exact ⟨okG_in HOK.out, by show sp ≤ 1; omega, by show wd ≤ n; omega⟩
            have hsh : b.s = s ∧ b.l = lo ∧ b.n = n := by rw [hb]; exact ⟨rfl, rfl, rfl⟩
            have hbc : b.cells = #[.int .u64 (U64 yep), .int .i64 s, .int .i64 lo, .int .i64 n, .int .i64 sp, .int .i64 wd, .int .u64 (U64 ylg)] := by rw [hb]; rfl
            have hge := HI.out.ge
            have hDb : DiskX B (fun k => (k = G9 ∨ k = G9 + 1 ∨ k = G12) ∨ k = Gb) Wb g d := (HI.out.disk.besides (fun k e => by rcases e with e | e; exact .inl e; exact .inr (by omega))).below hbb
            have hXb : ∀ q, (fun k => (k = G9 ∨ k = G9 + 1 ∨ k = G12) ∨ k = Gb) q → q < Wb.heap.size := fun q e => by
              have h1 := HKb.out.lt
              have h2 := hbb.size
              rcases e with (e | e | e) | e <;> omega
            have hBb : B ≤ Wb.heap.size := by have := hbb.size; omega
            have hWR := swrite_ok hDb hXb hBb b hgd (HH.out.1.fit b hsh) HH.out.2.1 ha (by have := HH.out.2.2; have := HL.out.2.2.1; omega)
            have HHN := Lib.hid (HH.out.1.put hDb b hgd hsh)
            rw [hbc] at hWR
            have HWR := Lib.hid hWR
            have HBC := Lib.hid hbc
            have HEP := Lib.hid (show (b.at_ : Int) = U64 yep % 2 from by rw [at_mod, hb])
            have HBO := Lib.hid (show ∀ W, Calls Try.prog 12 #[.agg #[.int .u64 (U64 yep), .int .i64 s, .int .i64 lo, .int .i64 n, .int .i64 sp, .int .i64 wd, .int .u64 (U64 ylg)]] W (RetP (.agg #[.int .u64 (U64 yep), .int .i64 s, .int .i64 lo, .int .i64 n, .int .i64 sp, .int .i64 wd, .int .u64 (U64 ylg)]) W) from fun W => by have := of7_c b W; rw [hb] at this; exact this)
            clear hgd hsh hDb hXb hBb hWR hbc hge hb hsp1 hsp2 hsp3
            have c7 := HI.out.b7
            obtain ⟨g0, g1, g2⟩ := c7.three
            have hl7 : G7 < wr.heap.size := c7.lt
            have m0 := m.c0
            have m1 := m.c1
            have m2 := m.c2
            have m3 := m.c3
            have m4 := m.c4
            have m5 := m.c5
            have m6 := m.c6
            clear hbb hWb hGb c7 m
            go_wp2_with fail
            rw [← HWb.out, ← HGb.out]
            refine Calls.mono HWR.out ?_
            clear m0 m1 m2 m3 m4 m5 m6 g0 g1 g2 hl7
            rintro e w2 ⟨rfl, d2, k2⟩
            have HI2 := Lib.hid (HIb.out.turn (X := (fun k => (k = G9 ∨ k = G9 + 1 ∨ k = G12) ∨ k = Gb)) (fun k e => .inl e) d2 k2)
            have HK2 := Lib.hid (k2.bk HKb.out (fun e => e.2 (.inr rfl)))
            clear d2 k2 HWR HIb HKb
            obtain ⟨c0, c1, c2, c3, c4, c5, c6⟩ := HK2.out.seven
            go_wp2_with fail
            refine Calls.mono (HEN.out _) ?_
            rintro e w3 ⟨rfl, b3⟩
            have HI3 := Lib.hid (HI2.out.below b3)
            have HK3 := Lib.hid (HK2.out.below b3 HK2.out.lt)
            clear b3 HI2 HK2 c0 c1 c2 c3 c4 c5 c6
            rcases (show b.at_ = 0 ∨ b.at_ = 1 from by have := b.at_le; omega) with hat | hat
            · have hep : U64 yep % 2 = 0 := by have := HEP.out; omega
              have hep2 : (U64 yep).tmod 2 = 0 := (Int.tmod_eq_emod_of_nonneg (b := 2) (U64_lo yep)).trans hep
              have HEQ := Lib.hid hep
              have HHX := Lib.hid (show Hol (d.put b) s lo n (some b) o1 from by
                have := HHN.out
                rw [hat] at this
                simpa using this)
              clear hep hep2 hat
              go_wp2_with fail
              refine sc27_0 _ _ _ G9 Gb b (Lib.hid (by rw [← at_mod]; have := HEP.out; have := HEQ.out; omega)) (Lib.hid (by rw [HBC.out]; exact HK3.out)) (Lib.hid HI3.out.b9.lt) ?_ ?_ ?_ ?_
              iterate 3 (· rfl)
              intro vals w4 hG h89 h90
              unfold IsV at h89 h90
              simp only [putD, Act.put, List.setIfInBounds_toArray, List.set_cons_zero, List.set_cons_succ, h89, h90]
              have HI4 := Lib.hid (HI3.out.below hG)
              have HK4 := Lib.hid (HK3.out.below hG HK3.out.lt)
              clear h89 h90 hG HI3 HK3
              have hne := Lib.hid (show Gb ≠ G9 ∧ Gb ≠ G9 + 1 from by have := HI.out.ge; have := HGb.out; omega)
              have hlt9 := Lib.hid (show G9 < G9 + 1 from by omega)
              go_wp2_with (first | (refine wp_st7 rfl _ _ rfl G9 0 b rfl rfl 50 (c14 (o0.getD z0) (o1.getD z0)) (c14 b (o1.getD z0)) HI4.out.b9 (by show 0 + 7 ≤ 14; decide) rfl ?_; intro w5 k5 b5 o5; have c0 : w5.cell? ⟨Gb, 0, none⟩ = some (.int .u64 (U64 yep)) := Bk.cell ((o5 Gb hne.out.1).trans HK4.out) 0; have h10 : Bk w5 (G9 + 1) 34 #[.bool o0.isSome, .bool o1.isSome] := (o5 _ (by have := hlt9.out; omega)).trans HI4.out.b10; have x20 := h10.cell 0; have y20 := h10.free 0; have l10 := h10.lt; have hep := HEQ.out; have hep2 : (U64 yep).tmod 2 = 0 := (Int.tmod_eq_emod_of_nonneg (b := 2) (U64_lo yep)).trans hep; have HP := Lib.hid (HI4.out.two0 b k5 b5 o5); clear k5 b5 o5 h10))
              go_roundw
              case rel => exact ⟨k + 1, false, d.put b, some b, o1, t, by omega, rfl, by go_num, HP.out, HHX.out, HH.out.2.1, by have := HH.out.2.2; show d.writes + 1 ≤ k + 1; omega⟩
              case measure => (first | (simp [Go.RowKit.intOf]; done) | (simp [Go.RowKit.intOf]; omega))
            · have hep : U64 yep % 2 = 1 := by have := HEP.out; omega
              have hep2 : (U64 yep).tmod 2 = 1 := (Int.tmod_eq_emod_of_nonneg (b := 2) (U64_lo yep)).trans hep
              have HEQ := Lib.hid hep
              have HHX := Lib.hid (show Hol (d.put b) s lo n o0 (some b) from by
                have := HHN.out
                rw [hat] at this
                simpa using this)
              clear hep hep2 hat
              go_wp2_with fail
              refine sc27_1 _ _ _ G9 Gb b (Lib.hid (by rw [← at_mod]; have := HEP.out; have := HEQ.out; omega)) (Lib.hid (by rw [HBC.out]; exact HK3.out)) (Lib.hid HI3.out.b9.lt) ?_ ?_ ?_ ?_
              iterate 3 (· rfl)
              intro vals w4 hG h89 h90
              unfold IsV at h89 h90
              simp only [putD, Act.put, List.setIfInBounds_toArray, List.set_cons_zero, List.set_cons_succ, h89, h90]
              have HI4 := Lib.hid (HI3.out.below hG)
              have HK4 := Lib.hid (HK3.out.below hG HK3.out.lt)
              clear h89 h90 hG HI3 HK3
              have hne := Lib.hid (show Gb ≠ G9 ∧ Gb ≠ G9 + 1 from by have := HI.out.ge; have := HGb.out; omega)
              have hlt9 := Lib.hid (show G9 < G9 + 1 from by omega)
              go_wp2_with (first | (refine wp_st7 rfl _ _ rfl G9 7 b rfl rfl 50 (c14 (o0.getD z0) (o1.getD z0)) (c14 (o0.getD z0) b) HI4.out.b9 (by show 7 + 7 ≤ 14; decide) rfl ?_; intro w5 k5 b5 o5; have c0 : w5.cell? ⟨Gb, 0, none⟩ = some (.int .u64 (U64 yep)) := Bk.cell ((o5 Gb hne.out.1).trans HK4.out) 0; have h10 : Bk w5 (G9 + 1) 34 #[.bool o0.isSome, .bool o1.isSome] := (o5 _ (by have := hlt9.out; omega)).trans HI4.out.b10; have x20 := h10.cell 1; have y20 := h10.free 1; have l10 := h10.lt; have hep := HEQ.out; have hep2 : (U64 yep).tmod 2 = 1 := (Int.tmod_eq_emod_of_nonneg (b := 2) (U64_lo yep)).trans hep; have HP := Lib.hid (HI4.out.two1 b k5 b5 o5); clear k5 b5 o5 h10))
              go_roundw
              case rel => exact ⟨k + 1, false, d.put b, o0, some b, t, by omega, rfl, by go_num, HP.out, HHX.out, HH.out.2.1, by have := HH.out.2.2; show d.writes + 1 ≤ k + 1; omega⟩
              case measure => (first | (simp [Go.RowKit.intOf]; done) | (simp [Go.RowKit.intOf]; omega))
      · as_aux_lemma =>
          have HEN := Lib.hid (fun W => encode7_c yep s lo n ysp ywd ylg W HOK.out false (by rw [decide_eq_false hg]))
          obtain ⟨Gb, hGb⟩ : ∃ q, q = wr.heap.size := ⟨_, rfl⟩
          obtain ⟨Wb, hWb⟩ : ∃ W, W = wr.alloc (.cells #[.int .u64 (U64 yep), .int .i64 s, .int .i64 lo, .int .i64 n, .int .i64 ysp, .int .i64 ywd, .int .u64 (U64 ylg)] 32) := ⟨_, rfl⟩
          have hbb := Gw.alloc wr (.cells #[.int .u64 (U64 yep), .int .i64 s, .int .i64 lo, .int .i64 n, .int .i64 ysp, .int .i64 ywd, .int .u64 (U64 ylg)] 32)
          rw [← hWb] at hbb
          have HIb := Lib.hid (HI.out.below hbb)
          have HKb := Lib.hid (show Bk Wb Gb 32 #[.int .u64 (U64 yep), .int .i64 s, .int .i64 lo, .int .i64 n, .int .i64 ysp, .int .i64 ywd, .int .u64 (U64 ylg)] from by rw [hWb, hGb]; exact Bk.new wr _ _)
          have HWb := Lib.hid hWb
          have HGb := Lib.hid hGb
          have hbd : badS (s : Int) lo n ysp ywd := by unfold badS; rw [okG_in HOK.out]; omega
          have HWR := Lib.hid (show Calls Try.prog 16 #[.pointer (some ⟨g, 0, none⟩), .agg #[.int .u64 (U64 yep), .int .i64 s, .int .i64 lo, .int .i64 n, .int .i64 ysp, .int .i64 ywd, .int .u64 (U64 ylg)]] Wb (RetP (.int .i64 1) Wb) from swrite_bad _ yep s lo n ysp ywd ylg hbd)
          clear hbd hg
          have c7 := HI.out.b7
          obtain ⟨g0, g1, g2⟩ := c7.three
          have hl7 : G7 < wr.heap.size := c7.lt
          have m0 := m.c0
          have m1 := m.c1
          have m2 := m.c2
          have m3 := m.c3
          have m4 := m.c4
          have m5 := m.c5
          have m6 := m.c6
          clear hbb hWb hGb c7 m
          go_wp2_with fail
          rw [← HWb.out, ← HGb.out]
          refine Calls.mono HWR.out ?_
          clear m0 m1 m2 m3 m4 m5 m6 g0 g1 g2 hl7
          rintro e w2 ⟨rfl, b2⟩
          have HI2 := Lib.hid (HIb.out.below b2)
          have HK2 := Lib.hid (HKb.out.below b2 HKb.out.lt)
          clear b2 HWR HIb HKb
          obtain ⟨c0, c1, c2, c3, c4, c5, c6⟩ := HK2.out.seven
          go_wp2_with fail
          refine Calls.mono (HEN.out _) ?_
          rintro e w3 ⟨rfl, b3⟩
          have HI3 := Lib.hid (HI2.out.below b3)
          have HK3 := Lib.hid (HK2.out.below b3 HK2.out.lt)
          clear b3 HI2 HK2 c0 c1 c2 c3 c4 c5 c6
          go_wp2_with fail
          go_roundw
          case rel => exact ⟨k + 1, false, d, o0, o1, t, by omega, rfl, by go_num, HI3.out, HH.out.1, HH.out.2.1, by have := HH.out.2.2; omega⟩
          case measure => (first | (simp [Go.RowKit.intOf]; done) | (simp [Go.RowKit.intOf]; omega))
    · have hcl : k = L ∨ (k < L ∧ cb = true) := by
        rcases Nat.lt_or_ge k L with h | h
        · right; refine ⟨h, ?_⟩; cases cb with
            | true => rfl
            | false => exact absurd ⟨h, rfl⟩ hgo
        · left; omega
      have hd2 : 2 ≤ d.secs := by
        have h1 := HH.out.1.secs
        have h2 := tot_two HOK.out
        omega
      obtain ⟨d7, hd7⟩ : ∃ q, q = d.on := ⟨_, rfl⟩
      have HL7 := Lib.hid (show Hol d7 s lo n o0 o1 ∧ d7.off = false ∧ 2 ≤ d7.secs from by rw [hd7]; exact ⟨HH.out.1.same rfl rfl HH.out.1.pend rfl, rfl, hd2⟩)
      have hge := HI.out.ge
      have HON := Lib.hid (show Calls Try.prog 18 #[.pointer (some ⟨g, 0, none⟩)] wr (DkP B (fun k => k = G9 ∨ k = G9 + 1 ∨ k = G12) wr g d7 (.tuple #[])) from by rw [hd7]; exact xon_c HI.out.disk (fun k e => by rcases e with e | e | e <;> omega) (by omega))
      obtain ⟨x0, hx0⟩ : ∃ x, x = o0.getD z0 := ⟨_, rfl⟩
      obtain ⟨x1, hx1⟩ : ∃ x, x = o1.getD z0 := ⟨_, rfl⟩
      obtain ⟨f0, hf0⟩ : ∃ x, x = o0.isSome := ⟨_, rfl⟩
      obtain ⟨f1, hf1⟩ : ∃ x, x = o1.isSome := ⟨_, rfl⟩
      have HX := Lib.hid (And.intro hx0 (And.intro hx1 (And.intro hf0 hf1)))
      clear hd7 hd2 hgo hge hx0 hx1 hf0 hf1
      rcases hcl with hcl | ⟨hcl, rfl⟩
      · subst hcl
        have pk0 : (0 : Int) ≤ (k : Int) := by omega
        as_aux_lemma =>
          go_wp2_with fail
          refine Calls.mono HON.out ?_
          rintro e w2 ⟨rfl, d2, k2⟩
          have HI2 := Lib.hid (HI.out.turn (X := (fun k => k = G9 ∨ k = G9 + 1 ∨ k = G12)) (fun k e => e) d2 k2)
          clear d2 k2 HON HI HH
          obtain ⟨cc, hcc⟩ : ∃ cc, cc = c14 x0 x1 := ⟨_, rfl⟩
          have HCC := Lib.hid hcc
          have HCO := Lib.hid (c14_one x0 x1)
          have HCS := Lib.hid (show (c14 x0 x1).size = 14 from rfl)
          rw [← hcc] at HCO HCS
          have HBO := Lib.hid (show Calls Try.prog 9 #[.pointer (some ⟨g, 0, none⟩)] w2 (RetP (.tuple #[.agg cc, .agg #[.bool f0, .bool f1], .int .i64 0]) w2) from by
            have := both_c HI2.out.disk HL7.out.2.1 HL7.out.2.2 o0 o1 HL7.out.1.d0 HL7.out.1.d1
            rw [HL7.out.1.in0, HL7.out.1.in1, ← HX.out.1, ← HX.out.2.1, ← HX.out.2.2.1, ← HX.out.2.2.2, ← hcc] at this
            exact this)
          go_wp2_with fail
          refine Calls.mono HBO.out ?_
          rintro e w9 ⟨rfl, b9⟩
          have H9 := Lib.hid (show Bk w9 G9 50 (c14 x0 x1) ∧ Bk w9 (G9 + 1) 34 #[.bool f0, .bool f1] ∧ Bk w9 G12 41 t.cells ∧ Below w.heap.size w w9 from by
            have h := HI2.out.below b9
            rw [HX.out.1, HX.out.2.1, HX.out.2.2.1, HX.out.2.2.2]
            exact ⟨h.b9, h.b10, h.b12, h.bel⟩)
          obtain ⟨Z14, hZ⟩ : ∃ z : Array Value, z = #[.int .u64 0, .int .i64 0, .int .i64 0, .int .i64 0, .int .i64 0, .int .i64 0, .int .u64 0, .int .u64 0, .int .i64 0, .int .i64 0, .int .i64 0, .int .i64 0, .int .i64 0, .int .u64 0] := ⟨_, rfl⟩
          have HZS := Lib.hid (show Z14.size = 14 from by rw [hZ]; rfl)
          obtain ⟨WA, hWA⟩ : ∃ W, W = (w9.alloc (.cells #[.int .u64 0, .int .i64 0, .int .i64 0, .int .i64 0, .int .i64 0, .int .i64 0, .int .u64 0, .int .u64 0, .int .i64 0, .int .i64 0, .int .i64 0, .int .i64 0, .int .i64 0, .int .u64 0] 33)).alloc (.cells #[.bool false, .bool false] 34) := ⟨_, rfl⟩
          have HBA := Lib.hid (show Below w9.heap.size w9 WA ∧ Bk WA w9.heap.size 33 Z14 ∧ Bk WA (w9.heap.size + 1) 34 #[.bool false, .bool false] from by
            rw [hWA, hZ]
            refine ⟨((Below.refl _ _).alloc (Nat.le_refl _) _).alloc (by simp) _, (Bk.new w9 _ _).alloc _, ?_⟩
            have := Bk.new (w9.alloc (.cells #[.int .u64 0, .int .i64 0, .int .i64 0, .int .i64 0, .int .i64 0, .int .i64 0, .int .u64 0, .int .u64 0, .int .i64 0, .int .i64 0, .int .i64 0, .int .i64 0, .int .i64 0, .int .u64 0] 33)) 34 #[.bool false, .bool false]
            simpa using this)
          have HWA := Lib.hid hWA
          clear b9 hcc hZ hWA HI2 HBO HX HL7
          go_wp2_with (first
            | (refine wp_stR rfl 33 _ _ rfl w9.heap.size cc rfl rfl 33 Z14 (by have := HBA.out.2.1; rw [HWA.out] at this; exact this) (by rw [HCS.out]; kernel_rfl) (by rw [HCS.out, HZS.out]) HCO.out ?_; intro wB kB bB oB; have HBB := Lib.hid (show Below w9.heap.size w9 wB ∧ Bk wB w9.heap.size 33 cc ∧ Bk wB (w9.heap.size + 1) 34 #[.bool false, .bool false] from (by rw [← HWA.out] at bB oB; exact ⟨HBA.out.1.trans (bB _ (Nat.le_refl _)), kB, (oB _ (by omega)).trans HBA.out.2.2⟩)); clear kB bB oB)
            | (refine wp_stR rfl 34 _ _ rfl (w9.heap.size + 1) #[.bool f0, .bool f1] rfl rfl 34 #[.bool false, .bool false] HBB.out.2.2 (by kernel_rfl) rfl (r2_one _ _) ?_; intro wC kC bC oC; have HCx := Lib.hid (show Below w9.heap.size w9 wC ∧ Bk wC w9.heap.size 33 cc ∧ Bk wC (w9.heap.size + 1) 34 #[.bool f0, .bool f1] from (by exact ⟨HBB.out.1.trans (bC _ (by omega)), (oC _ (by omega)).trans HBB.out.2.1, kC⟩)); clear kC bC oC))
          rw [HCC.out] at HCx
          obtain ⟨G17, hG17⟩ : ∃ q, q = w9.heap.size := ⟨_, rfl⟩
          have HCb := Lib.hid HCx.out.1
          have HC2 := Lib.hid HCx.out.2
          rw [← hG17] at HC2 ⊢
          clear hG17 HBB HBA HWA HCO HCS HCC HZS
          go_loopw [20] (fun i wr => (i = .int .i64 0 ∨ i = .int .i64 1 ∨ i = .int .i64 2) ∧ Below w9.heap.size w9 wr ∧ Bk wr G17 33 (c14 x0 x1) ∧ Bk wr (G17 + 1) 34 #[.bool f0, .bool f1]) (fun i _ => 2 - (Go.RowKit.intOf i).toNat)
          case atStart => exact ⟨.inl rfl, HCb.out, HC2.out⟩
          case round =>
            obtain ⟨hi, hb, h17, h18⟩ := hrel
            have HR := Lib.hid (And.intro hb (And.intro h17 h18))
            clear hb h17 h18 HCx HCb HC2
            have HG9 := Lib.hid (H9.out.1.below HR.out.1 H9.out.1.lt)
            have HG10 := Lib.hid (H9.out.2.1.below HR.out.1 H9.out.2.1.lt)
            rcases hi with rfl | rfl | rfl
            · as_aux_lemma =>
                go_wp2_with fail
                cases f0 with
                | true =>
                  (first | refine sc39_0y _ _ _ G9 (G9 + 1) G17 (G17 + 1) x0 x1 true f1 HG9 HG10 (Lib.hid HR.out.2.1) (Lib.hid HR.out.2.2) ?_ ?_ ?_ ?_ ?_ ?_ ?_ | refine sc39_0y _ _ _ G9 (G9 + 1) G17 (G17 + 1) x0 x1 true f1 HG9 HG10 (Lib.hid HR.out.2.1) (Lib.hid HR.out.2.2) ?_ ?_ ?_ ?_ ?_ ?_ | refine sc39_0y _ _ _ G9 (G9 + 1) G17 (G17 + 1) x0 x1 true f1 HG9 HG10 (Lib.hid HR.out.2.1) (Lib.hid HR.out.2.2) ?_ ?_ ?_ ?_ ?_ | refine sc39_0y _ _ _ G9 (G9 + 1) G17 (G17 + 1) x0 x1 true f1 HG9 HG10 (Lib.hid HR.out.2.1) (Lib.hid HR.out.2.2) ?_ ?_ ?_ ?_ | refine sc39_0y _ _ _ G9 (G9 + 1) G17 (G17 + 1) x0 x1 true f1 HG9 HG10 (Lib.hid HR.out.2.1) (Lib.hid HR.out.2.2) ?_ ?_ ?_ | refine sc39_0y _ _ _ G9 (G9 + 1) G17 (G17 + 1) x0 x1 true f1 HG9 HG10 (Lib.hid HR.out.2.1) (Lib.hid HR.out.2.2) ?_ ?_)
                  repeat (· rfl)
                  intro vals wE hG h21
                  unfold IsV at h21
                  simp only [putD, Act.put, List.setIfInBounds_toArray, List.set_cons_zero, List.set_cons_succ, h21]
                  have HE := Lib.hid (show Below w9.heap.size w9 wE ∧ Bk wE G17 33 (c14 x0 x1) ∧ Bk wE (G17 + 1) 34 #[.bool true, .bool f1] from ⟨HR.out.1.trans (hG.mono HR.out.1.size), HR.out.2.1.below hG HR.out.2.1.lt, HR.out.2.2.below hG HR.out.2.2.lt⟩)
                  have HT := Lib.hid (H9.out.2.2.1.below HE.out.1 H9.out.2.2.1.lt)
                  clear h21 hG HR HG9 HG10
                  go_wp2_with fail
                  cases cb with
                  | false =>
                    (first | refine sc40_0c _ _ _ G12 G17 (G17 + 1) x0 x1 t true f1 HT (Lib.hid HE.out.2.1) (Lib.hid HE.out.2.2) ?_ ?_ ?_ ?_ ?_ ?_ ?_ | refine sc40_0c _ _ _ G12 G17 (G17 + 1) x0 x1 t true f1 HT (Lib.hid HE.out.2.1) (Lib.hid HE.out.2.2) ?_ ?_ ?_ ?_ ?_ ?_ | refine sc40_0c _ _ _ G12 G17 (G17 + 1) x0 x1 t true f1 HT (Lib.hid HE.out.2.1) (Lib.hid HE.out.2.2) ?_ ?_ ?_ ?_ ?_ | refine sc40_0c _ _ _ G12 G17 (G17 + 1) x0 x1 t true f1 HT (Lib.hid HE.out.2.1) (Lib.hid HE.out.2.2) ?_ ?_ ?_ ?_ | refine sc40_0c _ _ _ G12 G17 (G17 + 1) x0 x1 t true f1 HT (Lib.hid HE.out.2.1) (Lib.hid HE.out.2.2) ?_ ?_ ?_ | refine sc40_0c _ _ _ G12 G17 (G17 + 1) x0 x1 t true f1 HT (Lib.hid HE.out.2.1) (Lib.hid HE.out.2.2) ?_ ?_)
                    repeat (· rfl)
                    intro vals wF hG h22
                    unfold IsV at h22
                    simp only [putD, Act.put, List.setIfInBounds_toArray, List.set_cons_zero, List.set_cons_succ, h22]
                    have HF := Lib.hid (show Below w9.heap.size w9 wF ∧ Bk wF G17 33 (c14 x0 x1) ∧ Bk wF (G17 + 1) 34 #[.bool true, .bool f1] from ⟨HE.out.1.trans (hG.mono HE.out.1.size), HE.out.2.1.below hG HE.out.2.1.lt, HE.out.2.2.below hG HE.out.2.2.lt⟩)
                    clear h22 hG HE HT
                    go_wp2_with fail
                    go_roundw
                    case rel => exact ⟨.inr (.inl (by first | rfl | go_num)), HF.out⟩
                    case measure => (first | (simp [Go.RowKit.intOf]; done) | (simp [Go.RowKit.intOf]; omega))
                  | true =>
                    rcases (show U64 t.ep % 2 = 0 ∨ U64 t.ep % 2 = 1 from by omega) with hm | hm
                    · obtain ⟨r, hr⟩ := eqR_any x0 t
                      (first | refine sc40_0y _ _ _ G12 G17 (G17 + 1) x0 x1 t true f1 0 (Lib.hid hm) rfl r (Lib.hid hr) HT (Lib.hid HE.out.2.1) (Lib.hid HE.out.2.2) ?_ ?_ ?_ ?_ ?_ ?_ ?_ | refine sc40_0y _ _ _ G12 G17 (G17 + 1) x0 x1 t true f1 0 (Lib.hid hm) rfl r (Lib.hid hr) HT (Lib.hid HE.out.2.1) (Lib.hid HE.out.2.2) ?_ ?_ ?_ ?_ ?_ ?_ | refine sc40_0y _ _ _ G12 G17 (G17 + 1) x0 x1 t true f1 0 (Lib.hid hm) rfl r (Lib.hid hr) HT (Lib.hid HE.out.2.1) (Lib.hid HE.out.2.2) ?_ ?_ ?_ ?_ ?_ | refine sc40_0y _ _ _ G12 G17 (G17 + 1) x0 x1 t true f1 0 (Lib.hid hm) rfl r (Lib.hid hr) HT (Lib.hid HE.out.2.1) (Lib.hid HE.out.2.2) ?_ ?_ ?_ ?_ | refine sc40_0y _ _ _ G12 G17 (G17 + 1) x0 x1 t true f1 0 (Lib.hid hm) rfl r (Lib.hid hr) HT (Lib.hid HE.out.2.1) (Lib.hid HE.out.2.2) ?_ ?_ ?_ | refine sc40_0y _ _ _ G12 G17 (G17 + 1) x0 x1 t true f1 0 (Lib.hid hm) rfl r (Lib.hid hr) HT (Lib.hid HE.out.2.1) (Lib.hid HE.out.2.2) ?_ ?_)
                      repeat (· rfl)
                      intro vals wF hG h22
                      unfold IsV at h22
                      simp only [putD, Act.put, List.setIfInBounds_toArray, List.set_cons_zero, List.set_cons_succ, h22]
                      have HF := Lib.hid (show Below w9.heap.size w9 wF ∧ Bk wF G17 33 (c14 x0 x1) ∧ Bk wF (G17 + 1) 34 #[.bool true, .bool f1] from ⟨HE.out.1.trans (hG.mono HE.out.1.size), HE.out.2.1.below hG HE.out.2.1.lt, HE.out.2.2.below hG HE.out.2.2.lt⟩)
                      clear h22 hG HE HT
                      go_wp2_with fail
                      go_roundw
                      case rel => exact ⟨.inr (.inl (by first | rfl | go_num)), HF.out⟩
                      case measure => (first | (simp [Go.RowKit.intOf]; done) | (simp [Go.RowKit.intOf]; omega))
                    · (first | refine sc40_0o _ _ _ G12 G17 (G17 + 1) x0 x1 t true f1 1 (Lib.hid hm) rfl HT (Lib.hid HE.out.2.1) (Lib.hid HE.out.2.2) ?_ ?_ ?_ ?_ ?_ ?_ ?_ | refine sc40_0o _ _ _ G12 G17 (G17 + 1) x0 x1 t true f1 1 (Lib.hid hm) rfl HT (Lib.hid HE.out.2.1) (Lib.hid HE.out.2.2) ?_ ?_ ?_ ?_ ?_ ?_ | refine sc40_0o _ _ _ G12 G17 (G17 + 1) x0 x1 t true f1 1 (Lib.hid hm) rfl HT (Lib.hid HE.out.2.1) (Lib.hid HE.out.2.2) ?_ ?_ ?_ ?_ ?_ | refine sc40_0o _ _ _ G12 G17 (G17 + 1) x0 x1 t true f1 1 (Lib.hid hm) rfl HT (Lib.hid HE.out.2.1) (Lib.hid HE.out.2.2) ?_ ?_ ?_ ?_ | refine sc40_0o _ _ _ G12 G17 (G17 + 1) x0 x1 t true f1 1 (Lib.hid hm) rfl HT (Lib.hid HE.out.2.1) (Lib.hid HE.out.2.2) ?_ ?_ ?_ | refine sc40_0o _ _ _ G12 G17 (G17 + 1) x0 x1 t true f1 1 (Lib.hid hm) rfl HT (Lib.hid HE.out.2.1) (Lib.hid HE.out.2.2) ?_ ?_)
                      repeat (· rfl)
                      intro vals wF hG h22
                      unfold IsV at h22
                      simp only [putD, Act.put, List.setIfInBounds_toArray, List.set_cons_zero, List.set_cons_succ, h22]
                      have HF := Lib.hid (show Below w9.heap.size w9 wF ∧ Bk wF G17 33 (c14 x0 x1) ∧ Bk wF (G17 + 1) 34 #[.bool true, .bool f1] from ⟨HE.out.1.trans (hG.mono HE.out.1.size), HE.out.2.1.below hG HE.out.2.1.lt, HE.out.2.2.below hG HE.out.2.2.lt⟩)
                      clear h22 hG HE HT
                      go_wp2_with fail
                      go_roundw
                      case rel => exact ⟨.inr (.inl (by first | rfl | go_num)), HF.out⟩
                      case measure => (first | (simp [Go.RowKit.intOf]; done) | (simp [Go.RowKit.intOf]; omega))
                | false =>
                  (first | refine sc39_0n _ _ _ G9 (G9 + 1) G17 (G17 + 1) x0 x1 false f1 HG9 HG10 (Lib.hid HR.out.2.1) (Lib.hid HR.out.2.2) ?_ ?_ ?_ ?_ ?_ ?_ ?_ | refine sc39_0n _ _ _ G9 (G9 + 1) G17 (G17 + 1) x0 x1 false f1 HG9 HG10 (Lib.hid HR.out.2.1) (Lib.hid HR.out.2.2) ?_ ?_ ?_ ?_ ?_ ?_ | refine sc39_0n _ _ _ G9 (G9 + 1) G17 (G17 + 1) x0 x1 false f1 HG9 HG10 (Lib.hid HR.out.2.1) (Lib.hid HR.out.2.2) ?_ ?_ ?_ ?_ ?_ | refine sc39_0n _ _ _ G9 (G9 + 1) G17 (G17 + 1) x0 x1 false f1 HG9 HG10 (Lib.hid HR.out.2.1) (Lib.hid HR.out.2.2) ?_ ?_ ?_ ?_ | refine sc39_0n _ _ _ G9 (G9 + 1) G17 (G17 + 1) x0 x1 false f1 HG9 HG10 (Lib.hid HR.out.2.1) (Lib.hid HR.out.2.2) ?_ ?_ ?_ | refine sc39_0n _ _ _ G9 (G9 + 1) G17 (G17 + 1) x0 x1 false f1 HG9 HG10 (Lib.hid HR.out.2.1) (Lib.hid HR.out.2.2) ?_ ?_)
                  repeat (· rfl)
                  intro vals wE hG h21
                  unfold IsV at h21
                  simp only [putD, Act.put, List.setIfInBounds_toArray, List.set_cons_zero, List.set_cons_succ, h21]
                  have HE := Lib.hid (show Below w9.heap.size w9 wE ∧ Bk wE G17 33 (c14 x0 x1) ∧ Bk wE (G17 + 1) 34 #[.bool false, .bool f1] from ⟨HR.out.1.trans (hG.mono HR.out.1.size), HR.out.2.1.below hG HR.out.2.1.lt, HR.out.2.2.below hG HR.out.2.2.lt⟩)
                  have HT := Lib.hid (H9.out.2.2.1.below HE.out.1 H9.out.2.2.1.lt)
                  clear h21 hG HR HG9 HG10
                  go_wp2_with fail
                  cases cb with
                  | false =>
                    (first | refine sc40_0c _ _ _ G12 G17 (G17 + 1) x0 x1 t false f1 HT (Lib.hid HE.out.2.1) (Lib.hid HE.out.2.2) ?_ ?_ ?_ ?_ ?_ ?_ ?_ | refine sc40_0c _ _ _ G12 G17 (G17 + 1) x0 x1 t false f1 HT (Lib.hid HE.out.2.1) (Lib.hid HE.out.2.2) ?_ ?_ ?_ ?_ ?_ ?_ | refine sc40_0c _ _ _ G12 G17 (G17 + 1) x0 x1 t false f1 HT (Lib.hid HE.out.2.1) (Lib.hid HE.out.2.2) ?_ ?_ ?_ ?_ ?_ | refine sc40_0c _ _ _ G12 G17 (G17 + 1) x0 x1 t false f1 HT (Lib.hid HE.out.2.1) (Lib.hid HE.out.2.2) ?_ ?_ ?_ ?_ | refine sc40_0c _ _ _ G12 G17 (G17 + 1) x0 x1 t false f1 HT (Lib.hid HE.out.2.1) (Lib.hid HE.out.2.2) ?_ ?_ ?_ | refine sc40_0c _ _ _ G12 G17 (G17 + 1) x0 x1 t false f1 HT (Lib.hid HE.out.2.1) (Lib.hid HE.out.2.2) ?_ ?_)
                    repeat (· rfl)
                    intro vals wF hG h22
                    unfold IsV at h22
                    simp only [putD, Act.put, List.setIfInBounds_toArray, List.set_cons_zero, List.set_cons_succ, h22]
                    have HF := Lib.hid (show Below w9.heap.size w9 wF ∧ Bk wF G17 33 (c14 x0 x1) ∧ Bk wF (G17 + 1) 34 #[.bool false, .bool f1] from ⟨HE.out.1.trans (hG.mono HE.out.1.size), HE.out.2.1.below hG HE.out.2.1.lt, HE.out.2.2.below hG HE.out.2.2.lt⟩)
                    clear h22 hG HE HT
                    go_wp2_with fail
                    go_roundw
                    case rel => exact ⟨.inr (.inl (by first | rfl | go_num)), HF.out⟩
                    case measure => (first | (simp [Go.RowKit.intOf]; done) | (simp [Go.RowKit.intOf]; omega))
                  | true =>
                    rcases (show U64 t.ep % 2 = 0 ∨ U64 t.ep % 2 = 1 from by omega) with hm | hm
                    · (first | refine sc40_0n _ _ _ G12 G17 (G17 + 1) x0 x1 t false f1 0 (Lib.hid hm) rfl HT (Lib.hid HE.out.2.1) (Lib.hid HE.out.2.2) ?_ ?_ ?_ ?_ ?_ ?_ ?_ | refine sc40_0n _ _ _ G12 G17 (G17 + 1) x0 x1 t false f1 0 (Lib.hid hm) rfl HT (Lib.hid HE.out.2.1) (Lib.hid HE.out.2.2) ?_ ?_ ?_ ?_ ?_ ?_ | refine sc40_0n _ _ _ G12 G17 (G17 + 1) x0 x1 t false f1 0 (Lib.hid hm) rfl HT (Lib.hid HE.out.2.1) (Lib.hid HE.out.2.2) ?_ ?_ ?_ ?_ ?_ | refine sc40_0n _ _ _ G12 G17 (G17 + 1) x0 x1 t false f1 0 (Lib.hid hm) rfl HT (Lib.hid HE.out.2.1) (Lib.hid HE.out.2.2) ?_ ?_ ?_ ?_ | refine sc40_0n _ _ _ G12 G17 (G17 + 1) x0 x1 t false f1 0 (Lib.hid hm) rfl HT (Lib.hid HE.out.2.1) (Lib.hid HE.out.2.2) ?_ ?_ ?_ | refine sc40_0n _ _ _ G12 G17 (G17 + 1) x0 x1 t false f1 0 (Lib.hid hm) rfl HT (Lib.hid HE.out.2.1) (Lib.hid HE.out.2.2) ?_ ?_)
                      repeat (· rfl)
                      intro vals wF hG h22
                      unfold IsV at h22
                      simp only [putD, Act.put, List.setIfInBounds_toArray, List.set_cons_zero, List.set_cons_succ, h22]
                      have HF := Lib.hid (show Below w9.heap.size w9 wF ∧ Bk wF G17 33 (c14 x0 x1) ∧ Bk wF (G17 + 1) 34 #[.bool false, .bool f1] from ⟨HE.out.1.trans (hG.mono HE.out.1.size), HE.out.2.1.below hG HE.out.2.1.lt, HE.out.2.2.below hG HE.out.2.2.lt⟩)
                      clear h22 hG HE HT
                      go_wp2_with fail
                      go_roundw
                      case rel => exact ⟨.inr (.inl (by first | rfl | go_num)), HF.out⟩
                      case measure => (first | (simp [Go.RowKit.intOf]; done) | (simp [Go.RowKit.intOf]; omega))
                    · (first | refine sc40_0o _ _ _ G12 G17 (G17 + 1) x0 x1 t false f1 1 (Lib.hid hm) rfl HT (Lib.hid HE.out.2.1) (Lib.hid HE.out.2.2) ?_ ?_ ?_ ?_ ?_ ?_ ?_ | refine sc40_0o _ _ _ G12 G17 (G17 + 1) x0 x1 t false f1 1 (Lib.hid hm) rfl HT (Lib.hid HE.out.2.1) (Lib.hid HE.out.2.2) ?_ ?_ ?_ ?_ ?_ ?_ | refine sc40_0o _ _ _ G12 G17 (G17 + 1) x0 x1 t false f1 1 (Lib.hid hm) rfl HT (Lib.hid HE.out.2.1) (Lib.hid HE.out.2.2) ?_ ?_ ?_ ?_ ?_ | refine sc40_0o _ _ _ G12 G17 (G17 + 1) x0 x1 t false f1 1 (Lib.hid hm) rfl HT (Lib.hid HE.out.2.1) (Lib.hid HE.out.2.2) ?_ ?_ ?_ ?_ | refine sc40_0o _ _ _ G12 G17 (G17 + 1) x0 x1 t false f1 1 (Lib.hid hm) rfl HT (Lib.hid HE.out.2.1) (Lib.hid HE.out.2.2) ?_ ?_ ?_ | refine sc40_0o _ _ _ G12 G17 (G17 + 1) x0 x1 t false f1 1 (Lib.hid hm) rfl HT (Lib.hid HE.out.2.1) (Lib.hid HE.out.2.2) ?_ ?_)
                      repeat (· rfl)
                      intro vals wF hG h22
                      unfold IsV at h22
                      simp only [putD, Act.put, List.setIfInBounds_toArray, List.set_cons_zero, List.set_cons_succ, h22]
                      have HF := Lib.hid (show Below w9.heap.size w9 wF ∧ Bk wF G17 33 (c14 x0 x1) ∧ Bk wF (G17 + 1) 34 #[.bool false, .bool f1] from ⟨HE.out.1.trans (hG.mono HE.out.1.size), HE.out.2.1.below hG HE.out.2.1.lt, HE.out.2.2.below hG HE.out.2.2.lt⟩)
                      clear h22 hG HE HT
                      go_wp2_with fail
                      go_roundw
                      case rel => exact ⟨.inr (.inl (by first | rfl | go_num)), HF.out⟩
                      case measure => (first | (simp [Go.RowKit.intOf]; done) | (simp [Go.RowKit.intOf]; omega))
            · as_aux_lemma =>
                go_wp2_with fail
                cases f1 with
                | true =>
                  (first | refine sc39_1y _ _ _ G9 (G9 + 1) G17 (G17 + 1) x0 x1 f0 true HG9 HG10 (Lib.hid HR.out.2.1) (Lib.hid HR.out.2.2) ?_ ?_ ?_ ?_ ?_ ?_ ?_ | refine sc39_1y _ _ _ G9 (G9 + 1) G17 (G17 + 1) x0 x1 f0 true HG9 HG10 (Lib.hid HR.out.2.1) (Lib.hid HR.out.2.2) ?_ ?_ ?_ ?_ ?_ ?_ | refine sc39_1y _ _ _ G9 (G9 + 1) G17 (G17 + 1) x0 x1 f0 true HG9 HG10 (Lib.hid HR.out.2.1) (Lib.hid HR.out.2.2) ?_ ?_ ?_ ?_ ?_ | refine sc39_1y _ _ _ G9 (G9 + 1) G17 (G17 + 1) x0 x1 f0 true HG9 HG10 (Lib.hid HR.out.2.1) (Lib.hid HR.out.2.2) ?_ ?_ ?_ ?_ | refine sc39_1y _ _ _ G9 (G9 + 1) G17 (G17 + 1) x0 x1 f0 true HG9 HG10 (Lib.hid HR.out.2.1) (Lib.hid HR.out.2.2) ?_ ?_ ?_ | refine sc39_1y _ _ _ G9 (G9 + 1) G17 (G17 + 1) x0 x1 f0 true HG9 HG10 (Lib.hid HR.out.2.1) (Lib.hid HR.out.2.2) ?_ ?_)
                  repeat (· rfl)
                  intro vals wE hG h21
                  unfold IsV at h21
                  simp only [putD, Act.put, List.setIfInBounds_toArray, List.set_cons_zero, List.set_cons_succ, h21]
                  have HE := Lib.hid (show Below w9.heap.size w9 wE ∧ Bk wE G17 33 (c14 x0 x1) ∧ Bk wE (G17 + 1) 34 #[.bool f0, .bool true] from ⟨HR.out.1.trans (hG.mono HR.out.1.size), HR.out.2.1.below hG HR.out.2.1.lt, HR.out.2.2.below hG HR.out.2.2.lt⟩)
                  have HT := Lib.hid (H9.out.2.2.1.below HE.out.1 H9.out.2.2.1.lt)
                  clear h21 hG HR HG9 HG10
                  go_wp2_with fail
                  cases cb with
                  | false =>
                    (first | refine sc40_1c _ _ _ G12 G17 (G17 + 1) x0 x1 t f0 true HT (Lib.hid HE.out.2.1) (Lib.hid HE.out.2.2) ?_ ?_ ?_ ?_ ?_ ?_ ?_ | refine sc40_1c _ _ _ G12 G17 (G17 + 1) x0 x1 t f0 true HT (Lib.hid HE.out.2.1) (Lib.hid HE.out.2.2) ?_ ?_ ?_ ?_ ?_ ?_ | refine sc40_1c _ _ _ G12 G17 (G17 + 1) x0 x1 t f0 true HT (Lib.hid HE.out.2.1) (Lib.hid HE.out.2.2) ?_ ?_ ?_ ?_ ?_ | refine sc40_1c _ _ _ G12 G17 (G17 + 1) x0 x1 t f0 true HT (Lib.hid HE.out.2.1) (Lib.hid HE.out.2.2) ?_ ?_ ?_ ?_ | refine sc40_1c _ _ _ G12 G17 (G17 + 1) x0 x1 t f0 true HT (Lib.hid HE.out.2.1) (Lib.hid HE.out.2.2) ?_ ?_ ?_ | refine sc40_1c _ _ _ G12 G17 (G17 + 1) x0 x1 t f0 true HT (Lib.hid HE.out.2.1) (Lib.hid HE.out.2.2) ?_ ?_)
                    repeat (· rfl)
                    intro vals wF hG h22
                    unfold IsV at h22
                    simp only [putD, Act.put, List.setIfInBounds_toArray, List.set_cons_zero, List.set_cons_succ, h22]
                    have HF := Lib.hid (show Below w9.heap.size w9 wF ∧ Bk wF G17 33 (c14 x0 x1) ∧ Bk wF (G17 + 1) 34 #[.bool f0, .bool true] from ⟨HE.out.1.trans (hG.mono HE.out.1.size), HE.out.2.1.below hG HE.out.2.1.lt, HE.out.2.2.below hG HE.out.2.2.lt⟩)
                    clear h22 hG HE HT
                    go_wp2_with fail
                    go_roundw
                    case rel => exact ⟨.inr (.inr (by first | rfl | go_num)), HF.out⟩
                    case measure => (first | (simp [Go.RowKit.intOf]; done) | (simp [Go.RowKit.intOf]; omega))
                  | true =>
                    rcases (show U64 t.ep % 2 = 0 ∨ U64 t.ep % 2 = 1 from by omega) with hm | hm
                    · (first | refine sc40_1o _ _ _ G12 G17 (G17 + 1) x0 x1 t f0 true 0 (Lib.hid hm) rfl HT (Lib.hid HE.out.2.1) (Lib.hid HE.out.2.2) ?_ ?_ ?_ ?_ ?_ ?_ ?_ | refine sc40_1o _ _ _ G12 G17 (G17 + 1) x0 x1 t f0 true 0 (Lib.hid hm) rfl HT (Lib.hid HE.out.2.1) (Lib.hid HE.out.2.2) ?_ ?_ ?_ ?_ ?_ ?_ | refine sc40_1o _ _ _ G12 G17 (G17 + 1) x0 x1 t f0 true 0 (Lib.hid hm) rfl HT (Lib.hid HE.out.2.1) (Lib.hid HE.out.2.2) ?_ ?_ ?_ ?_ ?_ | refine sc40_1o _ _ _ G12 G17 (G17 + 1) x0 x1 t f0 true 0 (Lib.hid hm) rfl HT (Lib.hid HE.out.2.1) (Lib.hid HE.out.2.2) ?_ ?_ ?_ ?_ | refine sc40_1o _ _ _ G12 G17 (G17 + 1) x0 x1 t f0 true 0 (Lib.hid hm) rfl HT (Lib.hid HE.out.2.1) (Lib.hid HE.out.2.2) ?_ ?_ ?_ | refine sc40_1o _ _ _ G12 G17 (G17 + 1) x0 x1 t f0 true 0 (Lib.hid hm) rfl HT (Lib.hid HE.out.2.1) (Lib.hid HE.out.2.2) ?_ ?_)
                      repeat (· rfl)
                      intro vals wF hG h22
                      unfold IsV at h22
                      simp only [putD, Act.put, List.setIfInBounds_toArray, List.set_cons_zero, List.set_cons_succ, h22]
                      have HF := Lib.hid (show Below w9.heap.size w9 wF ∧ Bk wF G17 33 (c14 x0 x1) ∧ Bk wF (G17 + 1) 34 #[.bool f0, .bool true] from ⟨HE.out.1.trans (hG.mono HE.out.1.size), HE.out.2.1.below hG HE.out.2.1.lt, HE.out.2.2.below hG HE.out.2.2.lt⟩)
                      clear h22 hG HE HT
                      go_wp2_with fail
                      go_roundw
                      case rel => exact ⟨.inr (.inr (by first | rfl | go_num)), HF.out⟩
                      case measure => (first | (simp [Go.RowKit.intOf]; done) | (simp [Go.RowKit.intOf]; omega))
                    · obtain ⟨r, hr⟩ := eqR_any x1 t
                      (first | refine sc40_1y _ _ _ G12 G17 (G17 + 1) x0 x1 t f0 true 1 (Lib.hid hm) rfl r (Lib.hid hr) HT (Lib.hid HE.out.2.1) (Lib.hid HE.out.2.2) ?_ ?_ ?_ ?_ ?_ ?_ ?_ | refine sc40_1y _ _ _ G12 G17 (G17 + 1) x0 x1 t f0 true 1 (Lib.hid hm) rfl r (Lib.hid hr) HT (Lib.hid HE.out.2.1) (Lib.hid HE.out.2.2) ?_ ?_ ?_ ?_ ?_ ?_ | refine sc40_1y _ _ _ G12 G17 (G17 + 1) x0 x1 t f0 true 1 (Lib.hid hm) rfl r (Lib.hid hr) HT (Lib.hid HE.out.2.1) (Lib.hid HE.out.2.2) ?_ ?_ ?_ ?_ ?_ | refine sc40_1y _ _ _ G12 G17 (G17 + 1) x0 x1 t f0 true 1 (Lib.hid hm) rfl r (Lib.hid hr) HT (Lib.hid HE.out.2.1) (Lib.hid HE.out.2.2) ?_ ?_ ?_ ?_ | refine sc40_1y _ _ _ G12 G17 (G17 + 1) x0 x1 t f0 true 1 (Lib.hid hm) rfl r (Lib.hid hr) HT (Lib.hid HE.out.2.1) (Lib.hid HE.out.2.2) ?_ ?_ ?_ | refine sc40_1y _ _ _ G12 G17 (G17 + 1) x0 x1 t f0 true 1 (Lib.hid hm) rfl r (Lib.hid hr) HT (Lib.hid HE.out.2.1) (Lib.hid HE.out.2.2) ?_ ?_)
                      repeat (· rfl)
                      intro vals wF hG h22
                      unfold IsV at h22
                      simp only [putD, Act.put, List.setIfInBounds_toArray, List.set_cons_zero, List.set_cons_succ, h22]
                      have HF := Lib.hid (show Below w9.heap.size w9 wF ∧ Bk wF G17 33 (c14 x0 x1) ∧ Bk wF (G17 + 1) 34 #[.bool f0, .bool true] from ⟨HE.out.1.trans (hG.mono HE.out.1.size), HE.out.2.1.below hG HE.out.2.1.lt, HE.out.2.2.below hG HE.out.2.2.lt⟩)
                      clear h22 hG HE HT
                      go_wp2_with fail
                      go_roundw
                      case rel => exact ⟨.inr (.inr (by first | rfl | go_num)), HF.out⟩
                      case measure => (first | (simp [Go.RowKit.intOf]; done) | (simp [Go.RowKit.intOf]; omega))
                | false =>
                  (first | refine sc39_1n _ _ _ G9 (G9 + 1) G17 (G17 + 1) x0 x1 f0 false HG9 HG10 (Lib.hid HR.out.2.1) (Lib.hid HR.out.2.2) ?_ ?_ ?_ ?_ ?_ ?_ ?_ | refine sc39_1n _ _ _ G9 (G9 + 1) G17 (G17 + 1) x0 x1 f0 false HG9 HG10 (Lib.hid HR.out.2.1) (Lib.hid HR.out.2.2) ?_ ?_ ?_ ?_ ?_ ?_ | refine sc39_1n _ _ _ G9 (G9 + 1) G17 (G17 + 1) x0 x1 f0 false HG9 HG10 (Lib.hid HR.out.2.1) (Lib.hid HR.out.2.2) ?_ ?_ ?_ ?_ ?_ | refine sc39_1n _ _ _ G9 (G9 + 1) G17 (G17 + 1) x0 x1 f0 false HG9 HG10 (Lib.hid HR.out.2.1) (Lib.hid HR.out.2.2) ?_ ?_ ?_ ?_ | refine sc39_1n _ _ _ G9 (G9 + 1) G17 (G17 + 1) x0 x1 f0 false HG9 HG10 (Lib.hid HR.out.2.1) (Lib.hid HR.out.2.2) ?_ ?_ ?_ | refine sc39_1n _ _ _ G9 (G9 + 1) G17 (G17 + 1) x0 x1 f0 false HG9 HG10 (Lib.hid HR.out.2.1) (Lib.hid HR.out.2.2) ?_ ?_)
                  repeat (· rfl)
                  intro vals wE hG h21
                  unfold IsV at h21
                  simp only [putD, Act.put, List.setIfInBounds_toArray, List.set_cons_zero, List.set_cons_succ, h21]
                  have HE := Lib.hid (show Below w9.heap.size w9 wE ∧ Bk wE G17 33 (c14 x0 x1) ∧ Bk wE (G17 + 1) 34 #[.bool f0, .bool false] from ⟨HR.out.1.trans (hG.mono HR.out.1.size), HR.out.2.1.below hG HR.out.2.1.lt, HR.out.2.2.below hG HR.out.2.2.lt⟩)
                  have HT := Lib.hid (H9.out.2.2.1.below HE.out.1 H9.out.2.2.1.lt)
                  clear h21 hG HR HG9 HG10
                  go_wp2_with fail
                  cases cb with
                  | false =>
                    (first | refine sc40_1c _ _ _ G12 G17 (G17 + 1) x0 x1 t f0 false HT (Lib.hid HE.out.2.1) (Lib.hid HE.out.2.2) ?_ ?_ ?_ ?_ ?_ ?_ ?_ | refine sc40_1c _ _ _ G12 G17 (G17 + 1) x0 x1 t f0 false HT (Lib.hid HE.out.2.1) (Lib.hid HE.out.2.2) ?_ ?_ ?_ ?_ ?_ ?_ | refine sc40_1c _ _ _ G12 G17 (G17 + 1) x0 x1 t f0 false HT (Lib.hid HE.out.2.1) (Lib.hid HE.out.2.2) ?_ ?_ ?_ ?_ ?_ | refine sc40_1c _ _ _ G12 G17 (G17 + 1) x0 x1 t f0 false HT (Lib.hid HE.out.2.1) (Lib.hid HE.out.2.2) ?_ ?_ ?_ ?_ | refine sc40_1c _ _ _ G12 G17 (G17 + 1) x0 x1 t f0 false HT (Lib.hid HE.out.2.1) (Lib.hid HE.out.2.2) ?_ ?_ ?_ | refine sc40_1c _ _ _ G12 G17 (G17 + 1) x0 x1 t f0 false HT (Lib.hid HE.out.2.1) (Lib.hid HE.out.2.2) ?_ ?_)
                    repeat (· rfl)
                    intro vals wF hG h22
                    unfold IsV at h22
                    simp only [putD, Act.put, List.setIfInBounds_toArray, List.set_cons_zero, List.set_cons_succ, h22]
                    have HF := Lib.hid (show Below w9.heap.size w9 wF ∧ Bk wF G17 33 (c14 x0 x1) ∧ Bk wF (G17 + 1) 34 #[.bool f0, .bool false] from ⟨HE.out.1.trans (hG.mono HE.out.1.size), HE.out.2.1.below hG HE.out.2.1.lt, HE.out.2.2.below hG HE.out.2.2.lt⟩)
                    clear h22 hG HE HT
                    go_wp2_with fail
                    go_roundw
                    case rel => exact ⟨.inr (.inr (by first | rfl | go_num)), HF.out⟩
                    case measure => (first | (simp [Go.RowKit.intOf]; done) | (simp [Go.RowKit.intOf]; omega))
                  | true =>
                    rcases (show U64 t.ep % 2 = 0 ∨ U64 t.ep % 2 = 1 from by omega) with hm | hm
                    · (first | refine sc40_1o _ _ _ G12 G17 (G17 + 1) x0 x1 t f0 false 0 (Lib.hid hm) rfl HT (Lib.hid HE.out.2.1) (Lib.hid HE.out.2.2) ?_ ?_ ?_ ?_ ?_ ?_ ?_ | refine sc40_1o _ _ _ G12 G17 (G17 + 1) x0 x1 t f0 false 0 (Lib.hid hm) rfl HT (Lib.hid HE.out.2.1) (Lib.hid HE.out.2.2) ?_ ?_ ?_ ?_ ?_ ?_ | refine sc40_1o _ _ _ G12 G17 (G17 + 1) x0 x1 t f0 false 0 (Lib.hid hm) rfl HT (Lib.hid HE.out.2.1) (Lib.hid HE.out.2.2) ?_ ?_ ?_ ?_ ?_ | refine sc40_1o _ _ _ G12 G17 (G17 + 1) x0 x1 t f0 false 0 (Lib.hid hm) rfl HT (Lib.hid HE.out.2.1) (Lib.hid HE.out.2.2) ?_ ?_ ?_ ?_ | refine sc40_1o _ _ _ G12 G17 (G17 + 1) x0 x1 t f0 false 0 (Lib.hid hm) rfl HT (Lib.hid HE.out.2.1) (Lib.hid HE.out.2.2) ?_ ?_ ?_ | refine sc40_1o _ _ _ G12 G17 (G17 + 1) x0 x1 t f0 false 0 (Lib.hid hm) rfl HT (Lib.hid HE.out.2.1) (Lib.hid HE.out.2.2) ?_ ?_)
                      repeat (· rfl)
                      intro vals wF hG h22
                      unfold IsV at h22
                      simp only [putD, Act.put, List.setIfInBounds_toArray, List.set_cons_zero, List.set_cons_succ, h22]
                      have HF := Lib.hid (show Below w9.heap.size w9 wF ∧ Bk wF G17 33 (c14 x0 x1) ∧ Bk wF (G17 + 1) 34 #[.bool f0, .bool false] from ⟨HE.out.1.trans (hG.mono HE.out.1.size), HE.out.2.1.below hG HE.out.2.1.lt, HE.out.2.2.below hG HE.out.2.2.lt⟩)
                      clear h22 hG HE HT
                      go_wp2_with fail
                      go_roundw
                      case rel => exact ⟨.inr (.inr (by first | rfl | go_num)), HF.out⟩
                      case measure => (first | (simp [Go.RowKit.intOf]; done) | (simp [Go.RowKit.intOf]; omega))
                    · (first | refine sc40_1n _ _ _ G12 G17 (G17 + 1) x0 x1 t f0 false 1 (Lib.hid hm) rfl HT (Lib.hid HE.out.2.1) (Lib.hid HE.out.2.2) ?_ ?_ ?_ ?_ ?_ ?_ ?_ | refine sc40_1n _ _ _ G12 G17 (G17 + 1) x0 x1 t f0 false 1 (Lib.hid hm) rfl HT (Lib.hid HE.out.2.1) (Lib.hid HE.out.2.2) ?_ ?_ ?_ ?_ ?_ ?_ | refine sc40_1n _ _ _ G12 G17 (G17 + 1) x0 x1 t f0 false 1 (Lib.hid hm) rfl HT (Lib.hid HE.out.2.1) (Lib.hid HE.out.2.2) ?_ ?_ ?_ ?_ ?_ | refine sc40_1n _ _ _ G12 G17 (G17 + 1) x0 x1 t f0 false 1 (Lib.hid hm) rfl HT (Lib.hid HE.out.2.1) (Lib.hid HE.out.2.2) ?_ ?_ ?_ ?_ | refine sc40_1n _ _ _ G12 G17 (G17 + 1) x0 x1 t f0 false 1 (Lib.hid hm) rfl HT (Lib.hid HE.out.2.1) (Lib.hid HE.out.2.2) ?_ ?_ ?_ | refine sc40_1n _ _ _ G12 G17 (G17 + 1) x0 x1 t f0 false 1 (Lib.hid hm) rfl HT (Lib.hid HE.out.2.1) (Lib.hid HE.out.2.2) ?_ ?_)
                      repeat (· rfl)
                      intro vals wF hG h22
                      unfold IsV at h22
                      simp only [putD, Act.put, List.setIfInBounds_toArray, List.set_cons_zero, List.set_cons_succ, h22]
                      have HF := Lib.hid (show Below w9.heap.size w9 wF ∧ Bk wF G17 33 (c14 x0 x1) ∧ Bk wF (G17 + 1) 34 #[.bool f0, .bool false] from ⟨HE.out.1.trans (hG.mono HE.out.1.size), HE.out.2.1.below hG HE.out.2.1.lt, HE.out.2.2.below hG HE.out.2.2.lt⟩)
                      clear h22 hG HE HT
                      go_wp2_with fail
                      go_roundw
                      case rel => exact ⟨.inr (.inr (by first | rfl | go_num)), HF.out⟩
                      case measure => (first | (simp [Go.RowKit.intOf]; done) | (simp [Go.RowKit.intOf]; omega))
            · go_wp2_with fail
              go_ret
              exact ⟨rfl, H9.out.2.2.2.trans (HR.out.1.mono H9.out.2.2.2.size)⟩
      · have pk0 : (0 : Int) ≤ (k : Int) := by omega
        have pk : (k : Int) < (L : Int) := by omega
        clear hcl
        as_aux_lemma =>
          go_wp2_with fail
          refine Calls.mono HON.out ?_
          rintro e w2 ⟨rfl, d2, k2⟩
          have HI2 := Lib.hid (HI.out.turn (X := (fun k => k = G9 ∨ k = G9 + 1 ∨ k = G12)) (fun k e => e) d2 k2)
          clear d2 k2 HON HI HH
          obtain ⟨cc, hcc⟩ : ∃ cc, cc = c14 x0 x1 := ⟨_, rfl⟩
          have HCC := Lib.hid hcc
          have HCO := Lib.hid (c14_one x0 x1)
          have HCS := Lib.hid (show (c14 x0 x1).size = 14 from rfl)
          rw [← hcc] at HCO HCS
          have HBO := Lib.hid (show Calls Try.prog 9 #[.pointer (some ⟨g, 0, none⟩)] w2 (RetP (.tuple #[.agg cc, .agg #[.bool f0, .bool f1], .int .i64 0]) w2) from by
            have := both_c HI2.out.disk HL7.out.2.1 HL7.out.2.2 o0 o1 HL7.out.1.d0 HL7.out.1.d1
            rw [HL7.out.1.in0, HL7.out.1.in1, ← HX.out.1, ← HX.out.2.1, ← HX.out.2.2.1, ← HX.out.2.2.2, ← hcc] at this
            exact this)
          go_wp2_with fail
          refine Calls.mono HBO.out ?_
          rintro e w9 ⟨rfl, b9⟩
          have H9 := Lib.hid (show Bk w9 G9 50 (c14 x0 x1) ∧ Bk w9 (G9 + 1) 34 #[.bool f0, .bool f1] ∧ Bk w9 G12 41 t.cells ∧ Below w.heap.size w w9 from by
            have h := HI2.out.below b9
            rw [HX.out.1, HX.out.2.1, HX.out.2.2.1, HX.out.2.2.2]
            exact ⟨h.b9, h.b10, h.b12, h.bel⟩)
          obtain ⟨Z14, hZ⟩ : ∃ z : Array Value, z = #[.int .u64 0, .int .i64 0, .int .i64 0, .int .i64 0, .int .i64 0, .int .i64 0, .int .u64 0, .int .u64 0, .int .i64 0, .int .i64 0, .int .i64 0, .int .i64 0, .int .i64 0, .int .u64 0] := ⟨_, rfl⟩
          have HZS := Lib.hid (show Z14.size = 14 from by rw [hZ]; rfl)
          obtain ⟨WA, hWA⟩ : ∃ W, W = (w9.alloc (.cells #[.int .u64 0, .int .i64 0, .int .i64 0, .int .i64 0, .int .i64 0, .int .i64 0, .int .u64 0, .int .u64 0, .int .i64 0, .int .i64 0, .int .i64 0, .int .i64 0, .int .i64 0, .int .u64 0] 33)).alloc (.cells #[.bool false, .bool false] 34) := ⟨_, rfl⟩
          have HBA := Lib.hid (show Below w9.heap.size w9 WA ∧ Bk WA w9.heap.size 33 Z14 ∧ Bk WA (w9.heap.size + 1) 34 #[.bool false, .bool false] from by
            rw [hWA, hZ]
            refine ⟨((Below.refl _ _).alloc (Nat.le_refl _) _).alloc (by simp) _, (Bk.new w9 _ _).alloc _, ?_⟩
            have := Bk.new (w9.alloc (.cells #[.int .u64 0, .int .i64 0, .int .i64 0, .int .i64 0, .int .i64 0, .int .i64 0, .int .u64 0, .int .u64 0, .int .i64 0, .int .i64 0, .int .i64 0, .int .i64 0, .int .i64 0, .int .u64 0] 33)) 34 #[.bool false, .bool false]
            simpa using this)
          have HWA := Lib.hid hWA
          clear b9 hcc hZ hWA HI2 HBO HX HL7
          go_wp2_with (first
            | (refine wp_stR rfl 33 _ _ rfl w9.heap.size cc rfl rfl 33 Z14 (by have := HBA.out.2.1; rw [HWA.out] at this; exact this) (by rw [HCS.out]; kernel_rfl) (by rw [HCS.out, HZS.out]) HCO.out ?_; intro wB kB bB oB; have HBB := Lib.hid (show Below w9.heap.size w9 wB ∧ Bk wB w9.heap.size 33 cc ∧ Bk wB (w9.heap.size + 1) 34 #[.bool false, .bool false] from (by rw [← HWA.out] at bB oB; exact ⟨HBA.out.1.trans (bB _ (Nat.le_refl _)), kB, (oB _ (by omega)).trans HBA.out.2.2⟩)); clear kB bB oB)
            | (refine wp_stR rfl 34 _ _ rfl (w9.heap.size + 1) #[.bool f0, .bool f1] rfl rfl 34 #[.bool false, .bool false] HBB.out.2.2 (by kernel_rfl) rfl (r2_one _ _) ?_; intro wC kC bC oC; have HCx := Lib.hid (show Below w9.heap.size w9 wC ∧ Bk wC w9.heap.size 33 cc ∧ Bk wC (w9.heap.size + 1) 34 #[.bool f0, .bool f1] from (by exact ⟨HBB.out.1.trans (bC _ (by omega)), (oC _ (by omega)).trans HBB.out.2.1, kC⟩)); clear kC bC oC))
          rw [HCC.out] at HCx
          obtain ⟨G17, hG17⟩ : ∃ q, q = w9.heap.size := ⟨_, rfl⟩
          have HCb := Lib.hid HCx.out.1
          have HC2 := Lib.hid HCx.out.2
          rw [← hG17] at HC2 ⊢
          clear hG17 HBB HBA HWA HCO HCS HCC HZS
          go_loopw [20] (fun i wr => (i = .int .i64 0 ∨ i = .int .i64 1 ∨ i = .int .i64 2) ∧ Below w9.heap.size w9 wr ∧ Bk wr G17 33 (c14 x0 x1) ∧ Bk wr (G17 + 1) 34 #[.bool f0, .bool f1]) (fun i _ => 2 - (Go.RowKit.intOf i).toNat)
          case atStart => exact ⟨.inl rfl, HCb.out, HC2.out⟩
          case round =>
            obtain ⟨hi, hb, h17, h18⟩ := hrel
            have HR := Lib.hid (And.intro hb (And.intro h17 h18))
            clear hb h17 h18 HCx HCb HC2
            have HG9 := Lib.hid (H9.out.1.below HR.out.1 H9.out.1.lt)
            have HG10 := Lib.hid (H9.out.2.1.below HR.out.1 H9.out.2.1.lt)
            rcases hi with rfl | rfl | rfl
            · as_aux_lemma =>
                go_wp2_with fail
                cases f0 with
                | true =>
                  (first | refine sc39_0y _ _ _ G9 (G9 + 1) G17 (G17 + 1) x0 x1 true f1 HG9 HG10 (Lib.hid HR.out.2.1) (Lib.hid HR.out.2.2) ?_ ?_ ?_ ?_ ?_ ?_ ?_ | refine sc39_0y _ _ _ G9 (G9 + 1) G17 (G17 + 1) x0 x1 true f1 HG9 HG10 (Lib.hid HR.out.2.1) (Lib.hid HR.out.2.2) ?_ ?_ ?_ ?_ ?_ ?_ | refine sc39_0y _ _ _ G9 (G9 + 1) G17 (G17 + 1) x0 x1 true f1 HG9 HG10 (Lib.hid HR.out.2.1) (Lib.hid HR.out.2.2) ?_ ?_ ?_ ?_ ?_ | refine sc39_0y _ _ _ G9 (G9 + 1) G17 (G17 + 1) x0 x1 true f1 HG9 HG10 (Lib.hid HR.out.2.1) (Lib.hid HR.out.2.2) ?_ ?_ ?_ ?_ | refine sc39_0y _ _ _ G9 (G9 + 1) G17 (G17 + 1) x0 x1 true f1 HG9 HG10 (Lib.hid HR.out.2.1) (Lib.hid HR.out.2.2) ?_ ?_ ?_ | refine sc39_0y _ _ _ G9 (G9 + 1) G17 (G17 + 1) x0 x1 true f1 HG9 HG10 (Lib.hid HR.out.2.1) (Lib.hid HR.out.2.2) ?_ ?_)
                  repeat (· rfl)
                  intro vals wE hG h21
                  unfold IsV at h21
                  simp only [putD, Act.put, List.setIfInBounds_toArray, List.set_cons_zero, List.set_cons_succ, h21]
                  have HE := Lib.hid (show Below w9.heap.size w9 wE ∧ Bk wE G17 33 (c14 x0 x1) ∧ Bk wE (G17 + 1) 34 #[.bool true, .bool f1] from ⟨HR.out.1.trans (hG.mono HR.out.1.size), HR.out.2.1.below hG HR.out.2.1.lt, HR.out.2.2.below hG HR.out.2.2.lt⟩)
                  have HT := Lib.hid (H9.out.2.2.1.below HE.out.1 H9.out.2.2.1.lt)
                  clear h21 hG HR HG9 HG10
                  go_wp2_with fail
                  · rcases (show U64 t.ep % 2 = 0 ∨ U64 t.ep % 2 = 1 from by omega) with hm | hm
                    · obtain ⟨r, hr⟩ := eqR_any x0 t
                      (first | refine sc40_0y _ _ _ G12 G17 (G17 + 1) x0 x1 t true f1 0 (Lib.hid hm) rfl r (Lib.hid hr) HT (Lib.hid HE.out.2.1) (Lib.hid HE.out.2.2) ?_ ?_ ?_ ?_ ?_ ?_ ?_ | refine sc40_0y _ _ _ G12 G17 (G17 + 1) x0 x1 t true f1 0 (Lib.hid hm) rfl r (Lib.hid hr) HT (Lib.hid HE.out.2.1) (Lib.hid HE.out.2.2) ?_ ?_ ?_ ?_ ?_ ?_ | refine sc40_0y _ _ _ G12 G17 (G17 + 1) x0 x1 t true f1 0 (Lib.hid hm) rfl r (Lib.hid hr) HT (Lib.hid HE.out.2.1) (Lib.hid HE.out.2.2) ?_ ?_ ?_ ?_ ?_ | refine sc40_0y _ _ _ G12 G17 (G17 + 1) x0 x1 t true f1 0 (Lib.hid hm) rfl r (Lib.hid hr) HT (Lib.hid HE.out.2.1) (Lib.hid HE.out.2.2) ?_ ?_ ?_ ?_ | refine sc40_0y _ _ _ G12 G17 (G17 + 1) x0 x1 t true f1 0 (Lib.hid hm) rfl r (Lib.hid hr) HT (Lib.hid HE.out.2.1) (Lib.hid HE.out.2.2) ?_ ?_ ?_ | refine sc40_0y _ _ _ G12 G17 (G17 + 1) x0 x1 t true f1 0 (Lib.hid hm) rfl r (Lib.hid hr) HT (Lib.hid HE.out.2.1) (Lib.hid HE.out.2.2) ?_ ?_)
                      repeat (· rfl)
                      intro vals wF hG h22
                      unfold IsV at h22
                      simp only [putD, Act.put, List.setIfInBounds_toArray, List.set_cons_zero, List.set_cons_succ, h22]
                      have HF := Lib.hid (show Below w9.heap.size w9 wF ∧ Bk wF G17 33 (c14 x0 x1) ∧ Bk wF (G17 + 1) 34 #[.bool true, .bool f1] from ⟨HE.out.1.trans (hG.mono HE.out.1.size), HE.out.2.1.below hG HE.out.2.1.lt, HE.out.2.2.below hG HE.out.2.2.lt⟩)
                      clear h22 hG HE HT
                      go_wp2_with fail
                      go_roundw
                      case rel => exact ⟨.inr (.inl (by first | rfl | go_num)), HF.out⟩
                      case measure => (first | (simp [Go.RowKit.intOf]; done) | (simp [Go.RowKit.intOf]; omega))
                    · (first | refine sc40_0o _ _ _ G12 G17 (G17 + 1) x0 x1 t true f1 1 (Lib.hid hm) rfl HT (Lib.hid HE.out.2.1) (Lib.hid HE.out.2.2) ?_ ?_ ?_ ?_ ?_ ?_ ?_ | refine sc40_0o _ _ _ G12 G17 (G17 + 1) x0 x1 t true f1 1 (Lib.hid hm) rfl HT (Lib.hid HE.out.2.1) (Lib.hid HE.out.2.2) ?_ ?_ ?_ ?_ ?_ ?_ | refine sc40_0o _ _ _ G12 G17 (G17 + 1) x0 x1 t true f1 1 (Lib.hid hm) rfl HT (Lib.hid HE.out.2.1) (Lib.hid HE.out.2.2) ?_ ?_ ?_ ?_ ?_ | refine sc40_0o _ _ _ G12 G17 (G17 + 1) x0 x1 t true f1 1 (Lib.hid hm) rfl HT (Lib.hid HE.out.2.1) (Lib.hid HE.out.2.2) ?_ ?_ ?_ ?_ | refine sc40_0o _ _ _ G12 G17 (G17 + 1) x0 x1 t true f1 1 (Lib.hid hm) rfl HT (Lib.hid HE.out.2.1) (Lib.hid HE.out.2.2) ?_ ?_ ?_ | refine sc40_0o _ _ _ G12 G17 (G17 + 1) x0 x1 t true f1 1 (Lib.hid hm) rfl HT (Lib.hid HE.out.2.1) (Lib.hid HE.out.2.2) ?_ ?_)
                      repeat (· rfl)
                      intro vals wF hG h22
                      unfold IsV at h22
                      simp only [putD, Act.put, List.setIfInBounds_toArray, List.set_cons_zero, List.set_cons_succ, h22]
                      have HF := Lib.hid (show Below w9.heap.size w9 wF ∧ Bk wF G17 33 (c14 x0 x1) ∧ Bk wF (G17 + 1) 34 #[.bool true, .bool f1] from ⟨HE.out.1.trans (hG.mono HE.out.1.size), HE.out.2.1.below hG HE.out.2.1.lt, HE.out.2.2.below hG HE.out.2.2.lt⟩)
                      clear h22 hG HE HT
                      go_wp2_with fail
                      go_roundw
                      case rel => exact ⟨.inr (.inl (by first | rfl | go_num)), HF.out⟩
                      case measure => (first | (simp [Go.RowKit.intOf]; done) | (simp [Go.RowKit.intOf]; omega))
                | false =>
                  (first | refine sc39_0n _ _ _ G9 (G9 + 1) G17 (G17 + 1) x0 x1 false f1 HG9 HG10 (Lib.hid HR.out.2.1) (Lib.hid HR.out.2.2) ?_ ?_ ?_ ?_ ?_ ?_ ?_ | refine sc39_0n _ _ _ G9 (G9 + 1) G17 (G17 + 1) x0 x1 false f1 HG9 HG10 (Lib.hid HR.out.2.1) (Lib.hid HR.out.2.2) ?_ ?_ ?_ ?_ ?_ ?_ | refine sc39_0n _ _ _ G9 (G9 + 1) G17 (G17 + 1) x0 x1 false f1 HG9 HG10 (Lib.hid HR.out.2.1) (Lib.hid HR.out.2.2) ?_ ?_ ?_ ?_ ?_ | refine sc39_0n _ _ _ G9 (G9 + 1) G17 (G17 + 1) x0 x1 false f1 HG9 HG10 (Lib.hid HR.out.2.1) (Lib.hid HR.out.2.2) ?_ ?_ ?_ ?_ | refine sc39_0n _ _ _ G9 (G9 + 1) G17 (G17 + 1) x0 x1 false f1 HG9 HG10 (Lib.hid HR.out.2.1) (Lib.hid HR.out.2.2) ?_ ?_ ?_ | refine sc39_0n _ _ _ G9 (G9 + 1) G17 (G17 + 1) x0 x1 false f1 HG9 HG10 (Lib.hid HR.out.2.1) (Lib.hid HR.out.2.2) ?_ ?_)
                  repeat (· rfl)
                  intro vals wE hG h21
                  unfold IsV at h21
                  simp only [putD, Act.put, List.setIfInBounds_toArray, List.set_cons_zero, List.set_cons_succ, h21]
                  have HE := Lib.hid (show Below w9.heap.size w9 wE ∧ Bk wE G17 33 (c14 x0 x1) ∧ Bk wE (G17 + 1) 34 #[.bool false, .bool f1] from ⟨HR.out.1.trans (hG.mono HR.out.1.size), HR.out.2.1.below hG HR.out.2.1.lt, HR.out.2.2.below hG HR.out.2.2.lt⟩)
                  have HT := Lib.hid (H9.out.2.2.1.below HE.out.1 H9.out.2.2.1.lt)
                  clear h21 hG HR HG9 HG10
                  go_wp2_with fail
                  · rcases (show U64 t.ep % 2 = 0 ∨ U64 t.ep % 2 = 1 from by omega) with hm | hm
                    · (first | refine sc40_0n _ _ _ G12 G17 (G17 + 1) x0 x1 t false f1 0 (Lib.hid hm) rfl HT (Lib.hid HE.out.2.1) (Lib.hid HE.out.2.2) ?_ ?_ ?_ ?_ ?_ ?_ ?_ | refine sc40_0n _ _ _ G12 G17 (G17 + 1) x0 x1 t false f1 0 (Lib.hid hm) rfl HT (Lib.hid HE.out.2.1) (Lib.hid HE.out.2.2) ?_ ?_ ?_ ?_ ?_ ?_ | refine sc40_0n _ _ _ G12 G17 (G17 + 1) x0 x1 t false f1 0 (Lib.hid hm) rfl HT (Lib.hid HE.out.2.1) (Lib.hid HE.out.2.2) ?_ ?_ ?_ ?_ ?_ | refine sc40_0n _ _ _ G12 G17 (G17 + 1) x0 x1 t false f1 0 (Lib.hid hm) rfl HT (Lib.hid HE.out.2.1) (Lib.hid HE.out.2.2) ?_ ?_ ?_ ?_ | refine sc40_0n _ _ _ G12 G17 (G17 + 1) x0 x1 t false f1 0 (Lib.hid hm) rfl HT (Lib.hid HE.out.2.1) (Lib.hid HE.out.2.2) ?_ ?_ ?_ | refine sc40_0n _ _ _ G12 G17 (G17 + 1) x0 x1 t false f1 0 (Lib.hid hm) rfl HT (Lib.hid HE.out.2.1) (Lib.hid HE.out.2.2) ?_ ?_)
                      repeat (· rfl)
                      intro vals wF hG h22
                      unfold IsV at h22
                      simp only [putD, Act.put, List.setIfInBounds_toArray, List.set_cons_zero, List.set_cons_succ, h22]
                      have HF := Lib.hid (show Below w9.heap.size w9 wF ∧ Bk wF G17 33 (c14 x0 x1) ∧ Bk wF (G17 + 1) 34 #[.bool false, .bool f1] from ⟨HE.out.1.trans (hG.mono HE.out.1.size), HE.out.2.1.below hG HE.out.2.1.lt, HE.out.2.2.below hG HE.out.2.2.lt⟩)
                      clear h22 hG HE HT
                      go_wp2_with fail
                      go_roundw
                      case rel => exact ⟨.inr (.inl (by first | rfl | go_num)), HF.out⟩
                      case measure => (first | (simp [Go.RowKit.intOf]; done) | (simp [Go.RowKit.intOf]; omega))
                    · (first | refine sc40_0o _ _ _ G12 G17 (G17 + 1) x0 x1 t false f1 1 (Lib.hid hm) rfl HT (Lib.hid HE.out.2.1) (Lib.hid HE.out.2.2) ?_ ?_ ?_ ?_ ?_ ?_ ?_ | refine sc40_0o _ _ _ G12 G17 (G17 + 1) x0 x1 t false f1 1 (Lib.hid hm) rfl HT (Lib.hid HE.out.2.1) (Lib.hid HE.out.2.2) ?_ ?_ ?_ ?_ ?_ ?_ | refine sc40_0o _ _ _ G12 G17 (G17 + 1) x0 x1 t false f1 1 (Lib.hid hm) rfl HT (Lib.hid HE.out.2.1) (Lib.hid HE.out.2.2) ?_ ?_ ?_ ?_ ?_ | refine sc40_0o _ _ _ G12 G17 (G17 + 1) x0 x1 t false f1 1 (Lib.hid hm) rfl HT (Lib.hid HE.out.2.1) (Lib.hid HE.out.2.2) ?_ ?_ ?_ ?_ | refine sc40_0o _ _ _ G12 G17 (G17 + 1) x0 x1 t false f1 1 (Lib.hid hm) rfl HT (Lib.hid HE.out.2.1) (Lib.hid HE.out.2.2) ?_ ?_ ?_ | refine sc40_0o _ _ _ G12 G17 (G17 + 1) x0 x1 t false f1 1 (Lib.hid hm) rfl HT (Lib.hid HE.out.2.1) (Lib.hid HE.out.2.2) ?_ ?_)
                      repeat (· rfl)
                      intro vals wF hG h22
                      unfold IsV at h22
                      simp only [putD, Act.put, List.setIfInBounds_toArray, List.set_cons_zero, List.set_cons_succ, h22]
                      have HF := Lib.hid (show Below w9.heap.size w9 wF ∧ Bk wF G17 33 (c14 x0 x1) ∧ Bk wF (G17 + 1) 34 #[.bool false, .bool f1] from ⟨HE.out.1.trans (hG.mono HE.out.1.size), HE.out.2.1.below hG HE.out.2.1.lt, HE.out.2.2.below hG HE.out.2.2.lt⟩)
                      clear h22 hG HE HT
                      go_wp2_with fail
                      go_roundw
                      case rel => exact ⟨.inr (.inl (by first | rfl | go_num)), HF.out⟩
                      case measure => (first | (simp [Go.RowKit.intOf]; done) | (simp [Go.RowKit.intOf]; omega))
            · as_aux_lemma =>
                go_wp2_with fail
                cases f1 with
                | true =>
                  (first | refine sc39_1y _ _ _ G9 (G9 + 1) G17 (G17 + 1) x0 x1 f0 true HG9 HG10 (Lib.hid HR.out.2.1) (Lib.hid HR.out.2.2) ?_ ?_ ?_ ?_ ?_ ?_ ?_ | refine sc39_1y _ _ _ G9 (G9 + 1) G17 (G17 + 1) x0 x1 f0 true HG9 HG10 (Lib.hid HR.out.2.1) (Lib.hid HR.out.2.2) ?_ ?_ ?_ ?_ ?_ ?_ | refine sc39_1y _ _ _ G9 (G9 + 1) G17 (G17 + 1) x0 x1 f0 true HG9 HG10 (Lib.hid HR.out.2.1) (Lib.hid HR.out.2.2) ?_ ?_ ?_ ?_ ?_ | refine sc39_1y _ _ _ G9 (G9 + 1) G17 (G17 + 1) x0 x1 f0 true HG9 HG10 (Lib.hid HR.out.2.1) (Lib.hid HR.out.2.2) ?_ ?_ ?_ ?_ | refine sc39_1y _ _ _ G9 (G9 + 1) G17 (G17 + 1) x0 x1 f0 true HG9 HG10 (Lib.hid HR.out.2.1) (Lib.hid HR.out.2.2) ?_ ?_ ?_ | refine sc39_1y _ _ _ G9 (G9 + 1) G17 (G17 + 1) x0 x1 f0 true HG9 HG10 (Lib.hid HR.out.2.1) (Lib.hid HR.out.2.2) ?_ ?_)
                  repeat (· rfl)
                  intro vals wE hG h21
                  unfold IsV at h21
                  simp only [putD, Act.put, List.setIfInBounds_toArray, List.set_cons_zero, List.set_cons_succ, h21]
                  have HE := Lib.hid (show Below w9.heap.size w9 wE ∧ Bk wE G17 33 (c14 x0 x1) ∧ Bk wE (G17 + 1) 34 #[.bool f0, .bool true] from ⟨HR.out.1.trans (hG.mono HR.out.1.size), HR.out.2.1.below hG HR.out.2.1.lt, HR.out.2.2.below hG HR.out.2.2.lt⟩)
                  have HT := Lib.hid (H9.out.2.2.1.below HE.out.1 H9.out.2.2.1.lt)
                  clear h21 hG HR HG9 HG10
                  go_wp2_with fail
                  · rcases (show U64 t.ep % 2 = 0 ∨ U64 t.ep % 2 = 1 from by omega) with hm | hm
                    · (first | refine sc40_1o _ _ _ G12 G17 (G17 + 1) x0 x1 t f0 true 0 (Lib.hid hm) rfl HT (Lib.hid HE.out.2.1) (Lib.hid HE.out.2.2) ?_ ?_ ?_ ?_ ?_ ?_ ?_ | refine sc40_1o _ _ _ G12 G17 (G17 + 1) x0 x1 t f0 true 0 (Lib.hid hm) rfl HT (Lib.hid HE.out.2.1) (Lib.hid HE.out.2.2) ?_ ?_ ?_ ?_ ?_ ?_ | refine sc40_1o _ _ _ G12 G17 (G17 + 1) x0 x1 t f0 true 0 (Lib.hid hm) rfl HT (Lib.hid HE.out.2.1) (Lib.hid HE.out.2.2) ?_ ?_ ?_ ?_ ?_ | refine sc40_1o _ _ _ G12 G17 (G17 + 1) x0 x1 t f0 true 0 (Lib.hid hm) rfl HT (Lib.hid HE.out.2.1) (Lib.hid HE.out.2.2) ?_ ?_ ?_ ?_ | refine sc40_1o _ _ _ G12 G17 (G17 + 1) x0 x1 t f0 true 0 (Lib.hid hm) rfl HT (Lib.hid HE.out.2.1) (Lib.hid HE.out.2.2) ?_ ?_ ?_ | refine sc40_1o _ _ _ G12 G17 (G17 + 1) x0 x1 t f0 true 0 (Lib.hid hm) rfl HT (Lib.hid HE.out.2.1) (Lib.hid HE.out.2.2) ?_ ?_)
                      repeat (· rfl)
                      intro vals wF hG h22
                      unfold IsV at h22
                      simp only [putD, Act.put, List.setIfInBounds_toArray, List.set_cons_zero, List.set_cons_succ, h22]
                      have HF := Lib.hid (show Below w9.heap.size w9 wF ∧ Bk wF G17 33 (c14 x0 x1) ∧ Bk wF (G17 + 1) 34 #[.bool f0, .bool true] from ⟨HE.out.1.trans (hG.mono HE.out.1.size), HE.out.2.1.below hG HE.out.2.1.lt, HE.out.2.2.below hG HE.out.2.2.lt⟩)
                      clear h22 hG HE HT
                      go_wp2_with fail
                      go_roundw
                      case rel => exact ⟨.inr (.inr (by first | rfl | go_num)), HF.out⟩
                      case measure => (first | (simp [Go.RowKit.intOf]; done) | (simp [Go.RowKit.intOf]; omega))
                    · obtain ⟨r, hr⟩ := eqR_any x1 t
                      (first | refine sc40_1y _ _ _ G12 G17 (G17 + 1) x0 x1 t f0 true 1 (Lib.hid hm) rfl r (Lib.hid hr) HT (Lib.hid HE.out.2.1) (Lib.hid HE.out.2.2) ?_ ?_ ?_ ?_ ?_ ?_ ?_ | refine sc40_1y _ _ _ G12 G17 (G17 + 1) x0 x1 t f0 true 1 (Lib.hid hm) rfl r (Lib.hid hr) HT (Lib.hid HE.out.2.1) (Lib.hid HE.out.2.2) ?_ ?_ ?_ ?_ ?_ ?_ | refine sc40_1y _ _ _ G12 G17 (G17 + 1) x0 x1 t f0 true 1 (Lib.hid hm) rfl r (Lib.hid hr) HT (Lib.hid HE.out.2.1) (Lib.hid HE.out.2.2) ?_ ?_ ?_ ?_ ?_ | refine sc40_1y _ _ _ G12 G17 (G17 + 1) x0 x1 t f0 true 1 (Lib.hid hm) rfl r (Lib.hid hr) HT (Lib.hid HE.out.2.1) (Lib.hid HE.out.2.2) ?_ ?_ ?_ ?_ | refine sc40_1y _ _ _ G12 G17 (G17 + 1) x0 x1 t f0 true 1 (Lib.hid hm) rfl r (Lib.hid hr) HT (Lib.hid HE.out.2.1) (Lib.hid HE.out.2.2) ?_ ?_ ?_ | refine sc40_1y _ _ _ G12 G17 (G17 + 1) x0 x1 t f0 true 1 (Lib.hid hm) rfl r (Lib.hid hr) HT (Lib.hid HE.out.2.1) (Lib.hid HE.out.2.2) ?_ ?_)
                      repeat (· rfl)
                      intro vals wF hG h22
                      unfold IsV at h22
                      simp only [putD, Act.put, List.setIfInBounds_toArray, List.set_cons_zero, List.set_cons_succ, h22]
                      have HF := Lib.hid (show Below w9.heap.size w9 wF ∧ Bk wF G17 33 (c14 x0 x1) ∧ Bk wF (G17 + 1) 34 #[.bool f0, .bool true] from ⟨HE.out.1.trans (hG.mono HE.out.1.size), HE.out.2.1.below hG HE.out.2.1.lt, HE.out.2.2.below hG HE.out.2.2.lt⟩)
                      clear h22 hG HE HT
                      go_wp2_with fail
                      go_roundw
                      case rel => exact ⟨.inr (.inr (by first | rfl | go_num)), HF.out⟩
                      case measure => (first | (simp [Go.RowKit.intOf]; done) | (simp [Go.RowKit.intOf]; omega))
                | false =>
                  (first | refine sc39_1n _ _ _ G9 (G9 + 1) G17 (G17 + 1) x0 x1 f0 false HG9 HG10 (Lib.hid HR.out.2.1) (Lib.hid HR.out.2.2) ?_ ?_ ?_ ?_ ?_ ?_ ?_ | refine sc39_1n _ _ _ G9 (G9 + 1) G17 (G17 + 1) x0 x1 f0 false HG9 HG10 (Lib.hid HR.out.2.1) (Lib.hid HR.out.2.2) ?_ ?_ ?_ ?_ ?_ ?_ | refine sc39_1n _ _ _ G9 (G9 + 1) G17 (G17 + 1) x0 x1 f0 false HG9 HG10 (Lib.hid HR.out.2.1) (Lib.hid HR.out.2.2) ?_ ?_ ?_ ?_ ?_ | refine sc39_1n _ _ _ G9 (G9 + 1) G17 (G17 + 1) x0 x1 f0 false HG9 HG10 (Lib.hid HR.out.2.1) (Lib.hid HR.out.2.2) ?_ ?_ ?_ ?_ | refine sc39_1n _ _ _ G9 (G9 + 1) G17 (G17 + 1) x0 x1 f0 false HG9 HG10 (Lib.hid HR.out.2.1) (Lib.hid HR.out.2.2) ?_ ?_ ?_ | refine sc39_1n _ _ _ G9 (G9 + 1) G17 (G17 + 1) x0 x1 f0 false HG9 HG10 (Lib.hid HR.out.2.1) (Lib.hid HR.out.2.2) ?_ ?_)
                  repeat (· rfl)
                  intro vals wE hG h21
                  unfold IsV at h21
                  simp only [putD, Act.put, List.setIfInBounds_toArray, List.set_cons_zero, List.set_cons_succ, h21]
                  have HE := Lib.hid (show Below w9.heap.size w9 wE ∧ Bk wE G17 33 (c14 x0 x1) ∧ Bk wE (G17 + 1) 34 #[.bool f0, .bool false] from ⟨HR.out.1.trans (hG.mono HR.out.1.size), HR.out.2.1.below hG HR.out.2.1.lt, HR.out.2.2.below hG HR.out.2.2.lt⟩)
                  have HT := Lib.hid (H9.out.2.2.1.below HE.out.1 H9.out.2.2.1.lt)
                  clear h21 hG HR HG9 HG10
                  go_wp2_with fail
                  · rcases (show U64 t.ep % 2 = 0 ∨ U64 t.ep % 2 = 1 from by omega) with hm | hm
                    · (first | refine sc40_1o _ _ _ G12 G17 (G17 + 1) x0 x1 t f0 false 0 (Lib.hid hm) rfl HT (Lib.hid HE.out.2.1) (Lib.hid HE.out.2.2) ?_ ?_ ?_ ?_ ?_ ?_ ?_ | refine sc40_1o _ _ _ G12 G17 (G17 + 1) x0 x1 t f0 false 0 (Lib.hid hm) rfl HT (Lib.hid HE.out.2.1) (Lib.hid HE.out.2.2) ?_ ?_ ?_ ?_ ?_ ?_ | refine sc40_1o _ _ _ G12 G17 (G17 + 1) x0 x1 t f0 false 0 (Lib.hid hm) rfl HT (Lib.hid HE.out.2.1) (Lib.hid HE.out.2.2) ?_ ?_ ?_ ?_ ?_ | refine sc40_1o _ _ _ G12 G17 (G17 + 1) x0 x1 t f0 false 0 (Lib.hid hm) rfl HT (Lib.hid HE.out.2.1) (Lib.hid HE.out.2.2) ?_ ?_ ?_ ?_ | refine sc40_1o _ _ _ G12 G17 (G17 + 1) x0 x1 t f0 false 0 (Lib.hid hm) rfl HT (Lib.hid HE.out.2.1) (Lib.hid HE.out.2.2) ?_ ?_ ?_ | refine sc40_1o _ _ _ G12 G17 (G17 + 1) x0 x1 t f0 false 0 (Lib.hid hm) rfl HT (Lib.hid HE.out.2.1) (Lib.hid HE.out.2.2) ?_ ?_)
                      repeat (· rfl)
                      intro vals wF hG h22
                      unfold IsV at h22
                      simp only [putD, Act.put, List.setIfInBounds_toArray, List.set_cons_zero, List.set_cons_succ, h22]
                      have HF := Lib.hid (show Below w9.heap.size w9 wF ∧ Bk wF G17 33 (c14 x0 x1) ∧ Bk wF (G17 + 1) 34 #[.bool f0, .bool false] from ⟨HE.out.1.trans (hG.mono HE.out.1.size), HE.out.2.1.below hG HE.out.2.1.lt, HE.out.2.2.below hG HE.out.2.2.lt⟩)
                      clear h22 hG HE HT
                      go_wp2_with fail
                      go_roundw
                      case rel => exact ⟨.inr (.inr (by first | rfl | go_num)), HF.out⟩
                      case measure => (first | (simp [Go.RowKit.intOf]; done) | (simp [Go.RowKit.intOf]; omega))
                    · (first | refine sc40_1n _ _ _ G12 G17 (G17 + 1) x0 x1 t f0 false 1 (Lib.hid hm) rfl HT (Lib.hid HE.out.2.1) (Lib.hid HE.out.2.2) ?_ ?_ ?_ ?_ ?_ ?_ ?_ | refine sc40_1n _ _ _ G12 G17 (G17 + 1) x0 x1 t f0 false 1 (Lib.hid hm) rfl HT (Lib.hid HE.out.2.1) (Lib.hid HE.out.2.2) ?_ ?_ ?_ ?_ ?_ ?_ | refine sc40_1n _ _ _ G12 G17 (G17 + 1) x0 x1 t f0 false 1 (Lib.hid hm) rfl HT (Lib.hid HE.out.2.1) (Lib.hid HE.out.2.2) ?_ ?_ ?_ ?_ ?_ | refine sc40_1n _ _ _ G12 G17 (G17 + 1) x0 x1 t f0 false 1 (Lib.hid hm) rfl HT (Lib.hid HE.out.2.1) (Lib.hid HE.out.2.2) ?_ ?_ ?_ ?_ | refine sc40_1n _ _ _ G12 G17 (G17 + 1) x0 x1 t f0 false 1 (Lib.hid hm) rfl HT (Lib.hid HE.out.2.1) (Lib.hid HE.out.2.2) ?_ ?_ ?_ | refine sc40_1n _ _ _ G12 G17 (G17 + 1) x0 x1 t f0 false 1 (Lib.hid hm) rfl HT (Lib.hid HE.out.2.1) (Lib.hid HE.out.2.2) ?_ ?_)
                      repeat (· rfl)
                      intro vals wF hG h22
                      unfold IsV at h22
                      simp only [putD, Act.put, List.setIfInBounds_toArray, List.set_cons_zero, List.set_cons_succ, h22]
                      have HF := Lib.hid (show Below w9.heap.size w9 wF ∧ Bk wF G17 33 (c14 x0 x1) ∧ Bk wF (G17 + 1) 34 #[.bool f0, .bool false] from ⟨HE.out.1.trans (hG.mono HE.out.1.size), HE.out.2.1.below hG HE.out.2.1.lt, HE.out.2.2.below hG HE.out.2.2.lt⟩)
                      clear h22 hG HE HT
                      go_wp2_with fail
                      go_roundw
                      case rel => exact ⟨.inr (.inr (by first | rfl | go_num)), HF.out⟩
                      case measure => (first | (simp [Go.RowKit.intOf]; done) | (simp [Go.RowKit.intOf]; omega))
            · go_wp2_with fail
              go_ret
              exact ⟨rfl, H9.out.2.2.2.trans (HR.out.1.mono H9.out.2.2.2.size)⟩
theorem sc_walk (w : World) (A : Option Addr) (l : List Bl) (c : Nat) (hc : l.length ≤ c) (_m : c ≤ maxLen) (hr : Bls w w.heap.size A l ∧ ∀ x ∈ l, BlOk x) (at_ : Int) (_wat : (Lit.int .i64 at_).wf = true) (A2 : Option Addr) (kp : List Bool) (c2 : Nat) (_hc2 : kp.length ≤ c2) (_m2 : c2 ≤ maxLen) (hr2 : Rd boZ w w.heap.size A2 kp ∧ ∀ a, A2 = some a → a.block < w.heap.size) : Calls Try.prog 4 #[.slice A l.length c, .int .i64 at_, .slice A2 kp.length c2] w (TruP (.bool true) w) := by
  by_cases h : l.length = 0 ∨ 10 < l.length ∨ at_ < 0 ∨ 30 < at_ ∨ 300 < kp.length
  · exact sc_out w A l.length c at_ A2 kp.length c2 h
  · obtain ⟨x, hx⟩ : ∃ x, l[0]? = some x := ⟨l[0]'(by omega), List.getElem?_eq_getElem (by omega)⟩
    obtain ⟨ad, hA, _⟩ := hr.1 0 (by omega)
    subst hA
    cases hfr : frB x.s x.l x.n with
    | false => exact sc_nil w ad l l.length c at_ A2 kp kp.length c2 (by omega) (by omega) (by omega) (by omega) (by omega) rfl rfl hc hr.1 x hx hfr
    | true =>
      obtain ⟨s, lo, n, e1, e2, e3, hok, hn, hs⟩ := fr_nat hfr
      exact sc_in w ad l l.length c at_ A2 kp kp.length c2 (by omega) (by omega) (by omega) (by omega) (by omega) rfl rfl hc hr.1 x hx s lo n ⟨e1, e2, e3⟩ hok hn hs hr2.1 hr2.2
end Go.Proofs.Ytjcpbhjmmnpjnaa
namespace Go.Proofs.Ytjcpbhjmmnpjnaa.slotsCuts
open Go.ChangeShapes Go.WideShapes Go.ChangeAt Go.RowKit
open Go.ChangeMaps (open_string shut_string)
set_option linter.unusedVariables false
set_option maxRecDepth 100000 in
theorem lifted (os : Os) (started : os.Started) (H : Type) (enc : TypeId × Value → H) :
    ReturnsInHanded {} Try.checked os 4 .any (Rows.slotsCutsSpec.pre6 enc Try.prog Try.f4 Rows.slotsCutsRow.domain false) (Rows.slotsCutsSpec.post enc Try.prog Try.f4 false true false false) := by
  refine returnsInHanded_of_change (C := Try.checked) own started (by kernel_rfl) Try.func4
    (ChangeSpec.witness6 (enc := enc) (C := Try.checked) false ⟨#[], #[.slice none 0 0, .int .i64 0, .slice none 0 0], []⟩ 8 (by kernel_rfl) (by kernel_rfl) (by kernel_rfl) (by kernel_rfl)) ?_
  intro W base args ds gs before hval0 hW hcnd _
  have hval : ∀ (j : Nat) t v, Try.f4.params[j]? = some t → args[j]? = some v → Value.okWide Try.prog W .any base t v := hval0
  have hW' := hW
  obtain ⟨p, q, hA0, hV, rfl, hfz, hnd⟩ := hW
  have hA : DataW.TrodAll enc Try.prog W 0 (fun _ => true) true Try.f4.params.toList args.toList ds p := hA0
  rw [Try.params4] at hA hval
  obtain ⟨v0, vs0, d0, ds0, p0, q0, hargs, rfl, rfl, h0, r0⟩ := trodAll_cons hA
  obtain ⟨v1, vs1, d1, ds1, p1, q1, rfl, rfl, rfl, h1, r1⟩ := trodAll_cons r0
  obtain ⟨v2, vs2, d2, ds2, p2, q2, rfl, rfl, rfl, h2, r2⟩ := trodAll_cons r1
  obtain ⟨rfl, rfl, rfl⟩ := trodAll_nil r2
  obtain rfl : args = #[v0, v1, v2] := by cases args; simp_all
  obtain ⟨rfl, rfl⟩ := trodVars_none hV
  have k0 := h0
  have lt0 : ∀ x ∈ p0, x.block < W.heap.size := by obtain ⟨m, hm⟩ := k0; exact DataW.trod_lt m _ _ _ hm
  obtain ⟨A0, a0, c0, e0v, g0, m0, w0⟩ := open_rows_Block (hval 0 46 v0 rfl rfl) h0; subst e0v
  have k1 := h1
  have lt1 : ∀ x ∈ p1, x.block < W.heap.size := by obtain ⟨m, hm⟩ := k1; exact DataW.trod_lt m _ _ _ hm
  obtain ⟨a1, e1v, _, _, w1⟩ := open_int Try.underlying3 (hval 1 3 v1 rfl rfl) h1; subst e1v
  have k2 := h2
  have lt2 : ∀ x ∈ p2, x.block < W.heap.size := by obtain ⟨m, hm⟩ := k2; exact DataW.trod_lt m _ _ _ hm
  obtain ⟨A2, a2, c2, e2v, g2, m2, w2⟩ := open_bools Try.underlying47 Try.underlying4 (by kernel_rfl) (hval 2 47 v2 rfl rfl) h2; subst e2v
  clear hA0 hval0
  refine (sc_walk W A0 a0 c0 g0 m0 w0 a1 w1 A2 a2 c2 g2 m2 w2).mono fun e W' ⟨he, bel⟩ => ?_
  subst he
  exact ⟨_, rfl, _, _, _, [], _, [], hW', trodAll_mk1 (shut_bool Try.underlying4 _), (trodAll_cons_mk (Below.trod laidOut (by kernel_rfl) (of_decide_eq_true (by kernel_rfl)) k0 bel lt0) (trodAll_cons_mk (Below.trod laidOut (by kernel_rfl) (of_decide_eq_true (by kernel_rfl)) k1 bel lt1) (trodAll_cons_mk (Below.trod laidOut (by kernel_rfl) (of_decide_eq_true (by kernel_rfl)) k2 bel lt2) trodAll_mk0))), rfl, bel.frame _, fun h => by cases h⟩
theorem over : Rows.slotsCutsRow.holds Try.pinned (OpenSpec.ofChange Rows.slotsCutsSpec) :=
  OpenClaim.holds_of_wide 4 Try.f4 rfl rfl rfl rfl rfl rfl rfl ⟨rfl, rfl, rfl, rfl, rfl⟩ rfl rfl rfl rfl rfl (by kernel_rfl) Try.func4 (by kernel_rfl)
    (of_decide_eq_true (by kernel_rfl)) (by unfold Func.isWrapper; first | (rw [if_pos (by decide +kernel)]; kernel_rfl) | (rw [if_neg (by decide +kernel)]; exact ⟨rfl, rfl⟩))
    (fun os started H enc _ => lifted os started H enc)
theorem proved : Rows.SlotsCutsSaid := over
end Go.Proofs.Ytjcpbhjmmnpjnaa.slotsCuts
