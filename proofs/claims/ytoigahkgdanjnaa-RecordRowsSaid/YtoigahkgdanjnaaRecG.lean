/- What loamlaw8.known answers. No conditions. -/
import Derived.Test.YtoigahkgdanjnaaRecF
import Derived.Lib.SmallJoins
namespace Go.Proofs.Ytoigahkgdanjnaa
set_option linter.unusedVariables false
set_option linter.unusedSimpArgs false
open Go.RowKit
set_option maxRecDepth 100000
set_option maxHeartbeats 400000
theorem grow1 {B : Nat} {w w' : World} {o : Obj} (h : Below B (w.alloc o) w') : w.heap.size + 1 ≤ w'.heap.size := by
  have := h.size
  simpa using this
theorem ab_rd (w : World) : Rd b8 (w.alloc (.cells #[.int .u8 97, .int .u8 98] 5 (2, 3))) (w.heap.size + 1) (some ⟨w.heap.size, 0, none⟩) [97#8, 98#8] := by
  have h := heap_alloc_new w (.cells #[.int .u8 97, .int .u8 98] 5 (2, 3))
  intro j hj
  refine ⟨_, rfl, by simp, ?_⟩
  have e2 : ((⟨w.heap.size, 0, none⟩ : Addr).add j) = ⟨w.heap.size, j, none⟩ := by unfold Addr.add; by_cases k : j = 0 <;> simp [k]
  rw [e2, cell_of_row _ _ j _ _ _ h]
  rcases j with _ | _ | j
  · rfl
  · rfl
  · simp at hj; omega
theorem known8_c (w : World) : Calls Try.prog 7 #[] w (RetP (.bool true) w) := by
  obtain ⟨g, hg⟩ : ∃ g, g = w.heap.size := ⟨_, rfl⟩
  have hb0 := ab_rd w
  have hnb : ¬ badR ((1 : Nat) : Int) ((1 : Nat) : Int) ((300 : Nat) : Int) := by unfold badR; omega
  have HNB := Lib.hid hnb
  obtain ⟨W1, hW1⟩ : ∃ W, W = (w.alloc (.cells #[.int .u8 97, .int .u8 98] 5 (2, 3))).alloc (.cells #[.int .i64 1, .int .u64 5, .int .i64 1, .int .i64 300, .slice (some ⟨w.heap.size, 0, none⟩) 2 2] 27) := ⟨_, rfl⟩
  have HB1 : Hid (Below w.heap.size w W1) := Lib.hid (by rw [hW1]; exact (Gw.alloc w _).trans ((Gw.alloc _ _).mono (by simp)))
  have HR1 : Hid (Rd b8 W1 W1.heap.size (some ⟨w.heap.size, 0, none⟩) [97#8, 98#8]) := Lib.hid (by rw [hW1]; exact ((hb0.alloc (by simp) _).more (by simp)))
  have HK1 : Hid (Bk W1 (w.heap.size + 1) 27 #[.int .i64 1, .int .u64 5, .int .i64 1, .int .i64 300, .slice (some ⟨w.heap.size, 0, none⟩) 2 2]) := Lib.hid (by
    rw [hW1]
    have q2 := Bk.new (w.alloc (.cells #[.int .u8 97, .int .u8 98] 5 (2, 3))) 27 #[.int .i64 1, .int .u64 5, .int .i64 1, .int .i64 300, .slice (some ⟨w.heap.size, 0, none⟩) 2 2]
    simpa using q2)
  have hu5 : U64 5#64 = 5 := by decide +kernel
  have hE1 : Calls Try.prog 8 #[.agg #[.int .i64 1, .int .u64 5, .int .i64 1, .int .i64 300, .slice (some ⟨w.heap.size, 0, none⟩) 2 2]] W1 (EncoP (encRL 1 5#64 1 300 [97#8, 98#8]) W1) := by
    have q1 := encode_ok 1 5#64 1 300 (some ⟨w.heap.size, 0, none⟩) [97#8, 98#8] 2 W1 hnb (by decide) HR1.out
    unfold recV at q1
    rw [hu5] at q1
    exact q1
  have HE1 := Lib.hid hE1
  clear hE1
  have HEL := Lib.hid (encRL_len 1 5#64 1 300 [97#8, 98#8])
  obtain ⟨EB, hEB⟩ : ∃ EB, EB = encRL 1 5#64 1 300 [97#8, 98#8] := ⟨_, rfl⟩
  rw [← hEB] at HE1 HEL
  have HEB := Lib.hid hEB
  have hel : EB.length ≤ 66 := HEL.out
  obtain ⟨c0, c1, c2, c3, c4⟩ := HK1.out.five
  clear hg hb0 hnb hu5 hEB HEL
  subst hW1
  have kc := Joins.run_convert_bytes_const_at (P := Try.prog) w 25 5 #[.int .u8 97, .int .u8 98] 2 2 w.heap.size rfl Try.underlying25 Try.underlying5
  go_enter Try.func7, Try.ntmps7
  go_wp2_with fail
  refine Calls.mono HE1.out ?_
  rintro e w2 ⟨A2, k2, rfl, hk2, hr2, hb2, ha2⟩
  obtain ⟨n, hn⟩ : ∃ n, n = EB.length := ⟨_, rfl⟩
  have HN := Lib.hid hn
  have HR2 := Lib.hid hr2
  have HL1 := Lib.hid (show ([] : List (BitVec 8)).length + EB.length ≤ 4294967296 from by simp; omega)
  have HL2 := Lib.hid (show EB.length + [9#8].length ≤ 4294967296 from by simp; omega)
  have HK2 := Lib.hid (HK1.out.below hb2 HK1.out.lt)
  have HRD := Lib.hid ((HR1.out.below hb2).more hb2.size)
  have HB2 := Lib.hid (HB1.out.trans (hb2.mono HB1.out.size))
  rw [← hn] at hk2 hel ⊢
  clear hn hr2 hb2 ha2 HR1 HK1 HB1 HE1 c0 c1 c2 c3 c4
  go_wp2_with (first | (at_builtin; refine wp_app one8 b8_one rfl (.tmp 19) (.tmp 20) rfl w2.heap.size _ [] rfl (ow_empty b8 5 w2 w2.heap.size (Nat.le_refl _)) A2 n k2 EB rfl HN.out w2.heap.size (HR2.out.alloc (Nat.le_refl _) _) HL1.out (by decide) (by simp) ?_; intro v3 w3 ho3 hb3 _ _; rw [List.nil_append] at ho3; have hs3 := grow1 hb3) | (at_builtin; refine wp_app one8 b8_one rfl (.tmp 21) (.tmp 22) rfl w2.heap.size v3 EB rfl (ho3.alloc _) (some ⟨w3.heap.size, 0, none⟩) 1 1 [9#8] rfl rfl (w3.heap.size + 1) (rd1_new rfl) HL2.out (by decide) (by simp; omega) ?_; intro v4 w4 ho4 hb4 _ _; obtain ⟨A4, k4, rfl, hk4⟩ := ho4.form; obtain ⟨n4, hn4⟩ : ∃ n4, n4 = (EB ++ [9#8]).length := ⟨_, rfl⟩; have HN4 := Lib.hid hn4; have HO4 := Lib.hid ho4; have HK4 := Lib.hid hk4; rw [← hn4] at HO4 HK4 ⊢; clear hn4 ho4 hk4))
  have hb24 : Below w2.heap.size w2 w4 := (((Gw.alloc w2 _).trans hb3).trans ((Gw.alloc w3 _).mono (by omega))).trans hb4
  have HB4 := Lib.hid (HB2.out.trans (hb24.mono HB2.out.size))
  have HK4' := Lib.hid (HK2.out.below hb24 HK2.out.lt)
  have HRD4 := Lib.hid ((HRD.out.below hb24).more hb24.size)
  have HD := Lib.hid (show Calls Try.prog 11 #[.slice A4 n4 k4] w4 (fun e w' => ∃ A c, e = .returned (.tuple #[.agg #[.int .i64 1, .int .u64 5, .int .i64 1, .int .i64 300, .slice A 2 c], .int .i64 n, .int .i64 0]) ∧ Rd b8 w' w'.heap.size A [97#8, 98#8] ∧ Below w4.heap.size w4 w') from by
    have hu5 : U64 5#64 = 5 := by decide +kernel
    have h := decode_ok 1 5#64 1 300 A4 [97#8, 98#8] [9#8] k4 w4 HNB.out (by decide) (by decide) (by rw [← HEB.out, ← HN4.out]; exact HK4.out) (by
      rw [← HEB.out]
      have h2 := HO4.out
      rw [HN4.out] at h2
      exact h2.rd)
    rw [← HEB.out, ← HN4.out] at h
    refine h.mono ?_
    rintro e w' ⟨A, c, e1, e2, e3, e4⟩
    unfold recV at e1
    rw [hu5, ← HEB.out, ← HN.out] at e1
    exact ⟨A, c, e1, e2, e3⟩)
  clear hb3 hb4 hs3 ho3 HB2 HK2 HRD HR2 hb24 hk2
  refine Calls.mono HD.out ?_
  rintro e w5 ⟨A5, k5, rfl, hr5, hb5⟩
  obtain ⟨W6, hW6⟩ : ∃ W, W = w5.alloc (.cells #[.int .i64 1, .int .u64 5, .int .i64 1, .int .i64 300, .slice A5 2 k5] 27) := ⟨_, rfl⟩
  have HB6 : Hid (Below w.heap.size w W6) := Lib.hid (by rw [hW6]; exact (HB4.out.trans (hb5.mono HB4.out.size)).trans ((Gw.alloc w5 _).mono (HB4.out.trans (hb5.mono HB4.out.size)).size))
  have HK6 : Hid (Bk W6 (w.heap.size + 1) 27 #[.int .i64 1, .int .u64 5, .int .i64 1, .int .i64 300, .slice (some ⟨w.heap.size, 0, none⟩) 2 2]) := Lib.hid (by rw [hW6]; exact (HK4'.out.below hb5 HK4'.out.lt).alloc _)
  have HJ6 : Hid (Bk W6 w5.heap.size 27 #[.int .i64 1, .int .u64 5, .int .i64 1, .int .i64 300, .slice A5 2 k5]) := Lib.hid (by rw [hW6]; exact Bk.new w5 _ _)
  have HR6 : Hid (Rd b8 W6 W6.heap.size A5 [97#8, 98#8]) := Lib.hid (by rw [hW6]; exact (hr5.alloc (Nat.le_refl _) _).more (by simp))
  have HRD6 : Hid (Rd b8 W6 W6.heap.size (some ⟨w.heap.size, 0, none⟩) [97#8, 98#8]) := Lib.hid (by rw [hW6]; exact (((HRD4.out.below hb5).more hb5.size).alloc (Nat.le_refl _) _).more (by simp))
  have HZ := Lib.hid (show Calls Try.prog 8 #[.agg #[.int .i64 0, .int .u64 0, .int .i64 0, .int .i64 0, .slice none 0 0]] W6 (RetP (.tuple #[.slice none 0 0, .int .i64 1]) W6) from encode_no 0 0#64 0 0 none 0 0 W6 1 (by decide) (fun W => check_bad 0 0#64 0 0 none 0 0 W (by unfold badR; omega)))
  clear hr5 hb5 HD HB4 HK4' HRD4
  subst hW6
  go_wp2_with fail
  refine Calls.mono HZ.out ?_
  rintro e w7 ⟨rfl, hb7⟩
  have HB7 := Lib.hid (HB6.out.trans (hb7.mono HB6.out.size))
  obtain ⟨c0, c1, c2, c3, c4⟩ := (HK6.out.below hb7 HK6.out.lt).five
  obtain ⟨d0, d1, d2, d3, d4⟩ := (HJ6.out.below hb7 HJ6.out.lt).five
  have HS := Lib.hid (show Calls Try.prog 12 #[.agg #[.int .i64 1, .int .u64 5, .int .i64 1, .int .i64 300, .slice A5 2 k5], .agg #[.int .i64 1, .int .u64 5, .int .i64 1, .int .i64 300, .slice (some ⟨w.heap.size, 0, none⟩) 2 2]] w7 (RetP (.bool true) w7) from by
    have hu5 : U64 5#64 = 5 := by decide +kernel
    have h := same_c 1 5#64 1 300 A5 (some ⟨w.heap.size, 0, none⟩) [97#8, 98#8] k5 2 w7 ((HR6.out.below hb7).more hb7.size) ((HRD6.out.below hb7).more hb7.size)
    unfold recV at h
    rw [hu5] at h
    exact h)
  have HC7 := Lib.hid (show ∀ W', Below w7.heap.size w7 W' → Bk W' (w.heap.size + 1) 27 #[.int .i64 1, .int .u64 5, .int .i64 1, .int .i64 300, .slice (some ⟨w.heap.size, 0, none⟩) 2 2] ∧ Bk W' w5.heap.size 27 #[.int .i64 1, .int .u64 5, .int .i64 1, .int .i64 300, .slice A5 2 k5] from fun W' hb => ⟨(HK6.out.below hb7 HK6.out.lt).below hb (HK6.out.below hb7 HK6.out.lt).lt, (HJ6.out.below hb7 HJ6.out.lt).below hb (HJ6.out.below hb7 HJ6.out.lt).lt⟩)
  clear hb7 HZ HR6 HRD6 HK6 HJ6
  go_wp2_with fail
  refine Calls.mono HS.out ?_
  rintro e w8 ⟨rfl, hb8⟩
  obtain ⟨hA, hB⟩ := HC7.out w8 hb8
  have HB8 := Lib.hid (HB7.out.trans (hb8.mono HB7.out.size))
  clear c0 c1 c2 c3 c4 d0 d1 d2 d3 d4 hb8 HC7 HS
  obtain ⟨c0, c1, c2, c3, c4⟩ := hA.five
  obtain ⟨d0, d1, d2, d3, d4⟩ := hB.five
  clear hA hB
  go_wp2_with fail
  go_ret
  exact ⟨rfl, HB8.out⟩
end Go.Proofs.Ytoigahkgdanjnaa
