/- What loamlaw5.known answers: true. No conditions. -/
import Derived.Test.YteefcimepdbehaaCodB
namespace Go.Proofs.Yteefcimepdbehaa
set_option linter.unusedVariables false
set_option linter.unusedSimpArgs false
open Go.RowKit
attribute [local go_sem] kc_at
theorem k5_uint {w0 w : World} {g : Nat} (h : EncS w0 w0.heap.size g [] w) : Calls Try.prog 17 #[.pointer (some ⟨g, 0, none⟩), .int .u64 300] w fun e w' => e = .returned (.tuple #[]) ∧ EncS w0 w0.heap.size g [172#8, 2#8] w' := by
  have k := h.uint 300#64 (by decide)
  rw [show U64 300#64 = 300 from by decide +kernel, show [] ++ uintL 300#64 = [172#8, 2#8] from by decide +kernel] at k
  exact k
theorem k5_int {w0 w : World} {g : Nat} (h : EncS w0 w0.heap.size g [172#8, 2#8] w) : Calls Try.prog 19 #[.pointer (some ⟨g, 0, none⟩), .int .i64 (-1)] w fun e w' => e = .returned (.tuple #[]) ∧ EncS w0 w0.heap.size g [172#8, 2#8, 1#8] w' := by
  have k := h.int (BitVec.allOnes 64) (by decide)
  rw [show I64 (BitVec.allOnes 64) = -1 from by decide +kernel, show [172#8, 2#8] ++ uintL (zigL (BitVec.allOnes 64)) = [172#8, 2#8, 1#8] from by decide +kernel] at k
  exact k
theorem k5_raw {w0 w w2 : World} {g k : Nat} (h : EncS w0 w0.heap.size g [172#8, 2#8, 1#8] w) (hb : Below w.heap.size w w2 ∧ w.heap.size ≤ w2.heap.size) (hk : w.heap.size ≤ k) (hf : Fk w2 k 5 #[.int .u8 97, .int .u8 98]) : Calls Try.prog 21 #[.pointer (some ⟨g, 0, none⟩), .slice (some ⟨k, 0, none⟩) 2 2] w2 fun e w' => e = .returned (.tuple #[]) ∧ EncS w0 w0.heap.size g [172#8, 2#8, 1#8, 2#8, 97#8, 98#8] w' := by
  have k := EncS.raw [97#8, 98#8] 2 h hb.1 hk (hf.rd (by kernel_rfl) hf.lt) (by decide) (by decide)
  rw [show [172#8, 2#8, 1#8] ++ (uintL (BitVec.ofNat 64 [97#8, 98#8].length) ++ [97#8, 98#8]) = [172#8, 2#8, 1#8, 2#8, 97#8, 98#8] from by decide +kernel] at k
  exact k
theorem k5_words {w0 w w2 : World} {g k : Nat} (h : EncS w0 w0.heap.size g [172#8, 2#8, 1#8, 2#8, 97#8, 98#8] w) (hb : Below w.heap.size w w2 ∧ w.heap.size ≤ w2.heap.size) (hk : w.heap.size ≤ k) (hf : Fk w2 k 29 #[.int .u64 5]) : Calls Try.prog 23 #[.pointer (some ⟨g, 0, none⟩), .slice (some ⟨k, 0, none⟩) 1 1] w2 fun e w' => e = .returned (.tuple #[]) ∧ EncS w0 w0.heap.size g encK w' := by
  have k := EncS.words [5#64] 1 h hb.1 hk (hf.rd (by kernel_rfl) hf.lt) (by decide) (by decide)
  rw [show [172#8, 2#8, 1#8, 2#8, 97#8, 98#8] ++ wordsL [5#64] = encK from by decide +kernel] at k
  exact k
def EncR' (B g : Nat) (bs : List (BitVec 8)) (w : World) : Prop := ∃ A c, Bk w g 28 #[.slice A bs.length c] ∧ Rd b8 w B A bs
theorem k5_du {w : World} {d : Nat} (h : DecAt w d encK 0) : Calls Try.prog 27 #[.pointer (some ⟨d, 0, none⟩)] w fun e w' => e = .returned (.int .u64 300) ∧ DecAt w' d (encK.drop 2) 0 ∧ Only w w' d := by
  have k := dec_uint w d encK h (by decide)
  rw [show decF 0 0#64 encK = .inr (300#64, encK.drop 2) from by decide +kernel] at k
  refine k.mono fun e w' h => ?_
  obtain ⟨h1, h2, h3⟩ := h
  rw [show U64 300#64 = 300 from by decide +kernel] at h1
  exact ⟨h1, h2, h3⟩
theorem k5_di {w : World} {d : Nat} (h : DecAt w d (encK.drop 2) 0) : Calls Try.prog 28 #[.pointer (some ⟨d, 0, none⟩)] w fun e w' => e = .returned (.int .i64 (-1)) ∧ DecAt w' d (encK.drop 3) 0 ∧ Only w w' d := by
  have k := dec_int w d _ h (by decide)
  rw [show decF 0 0#64 (encK.drop 2) = .inr (1#64, encK.drop 3) from by decide +kernel] at k
  refine k.mono fun e w' h => ?_
  obtain ⟨h1, h2, h3⟩ := h
  rw [show I64 (zagL 1#64) = -1 from by decide +kernel] at h1
  exact ⟨h1, h2, h3⟩
theorem k5_dr {w : World} {d : Nat} (h : DecAt w d (encK.drop 3) 0) : Calls Try.prog 29 #[.pointer (some ⟨d, 0, none⟩)] w (RawP d [97#8, 98#8] (encK.drop 6) w) := by
  refine dec_raw w d [97#8, 98#8] (encK.drop 6) ?_ (by decide)
  rw [show uintL (BitVec.ofNat 64 [97#8, 98#8].length) ++ ([97#8, 98#8] ++ encK.drop 6) = encK.drop 3 from by decide +kernel]
  exact h
theorem k5_dw {w : World} {d : Nat} (h : DecAt w d (encK.drop 6) 0) : Calls Try.prog 31 #[.pointer (some ⟨d, 0, none⟩)] w (WrdP d [5#64] [] w) := by
  refine dec_words w d [5#64] [] ?_ (by decide)
  rw [show uintL (BitVec.ofNat 64 [5#64].length) ++ (flatW [5#64] ++ []) = encK.drop 6 from by decide +kernel]
  exact h
set_option maxHeartbeats 800000
set_option maxRecDepth 100000
theorem known5_c (w : World) : Calls Try.prog 15 #[] w (RetP (.bool true) w) := by
  go_enter Try.func15, Try.ntmps15
  go_wp2_with fail
  have hS : EncS w w.heap.size w.heap.size [] _ := EncS.new w
  refine Calls.mono (k5_uint (w0 := w) hS) ?_
  rintro e w1 ⟨rfl, h1⟩
  clear hS
  go_wp2_with fail
  refine Calls.mono (k5_int h1) ?_
  rintro e w2 ⟨rfl, h2⟩
  clear h1
  go_wp2_with fail
  refine Calls.mono (k5_raw (k := w2.heap.size) h2 ?_ (Nat.le_refl _) ?_) ?_
  · repeat' (first | exact skR _ | with_reducible refine skA ?_ _ | with_reducible refine skD ?_)
  · repeat' (first | (with_reducible refine fk_at ?_; first | rfl | (simp; done)) | with_reducible refine Fk.drew ?_ | with_reducible refine Fk.drewN ?_ _)
  rintro e w3 ⟨rfl, h3⟩
  clear h2
  go_wp2_with fail
  refine Calls.mono (k5_words (k := w3.heap.size) h3 ?_ (Nat.le_refl _) ?_) ?_
  · repeat' (first | exact skR _ | with_reducible refine skA ?_ _ | with_reducible refine skD ?_)
  · repeat' (first | (with_reducible refine fk_at ?_; first | rfl | (simp; done)) | with_reducible refine Fk.drew ?_ | with_reducible refine Fk.drewN ?_ _)
  rintro e w4 ⟨rfl, h4⟩
  clear h3
  obtain ⟨he4, hb4, hg, hgl⟩ := h4.out
  have hwl := Nat.le_trans hg (Nat.le_of_lt hgl)
  have HB := Lib.hid (enc_bytes w4 w.heap.size encK he4 (by decide))
  clear h4 hg
  go_wp2_with fail
  refine Calls.mono HB.out ?_
  rintro e w5 ⟨A5, c5, rfl, hc5, hr5, hb5, _⟩
  have HO := Lib.hid (of_c encK A5 c5 w5 hr5 (by decide))
  have he5 := he4.below hb5
  have hS5 : Below w.heap.size w w5 := hb4.trans (hb5.mono hwl)
  have hg5 := Nat.lt_of_lt_of_le hgl hb5.size
  clear HB hr5 he4 hb4 hgl hc5
  go_wp2_with fail
  refine Calls.mono HO.out ?_
  rintro e w6 ⟨d, rfl, hd1, hd2, hd, hb6⟩
  have he6 : EncR' w6.heap.size w.heap.size encK w6 := he5.below hb6
  have he6 : EncR' w5.heap.size w.heap.size encK w6 := by
    obtain ⟨A, c, h1, h2⟩ := he5
    exact ⟨A, c, h1.below hb6 h1.lt, h2.below hb6⟩
  have hS6 : Below w.heap.size w w6 := hS5.trans (hb6.mono (by have := hb5.size; omega))
  have hgd : w.heap.size ≠ d := by omega
  clear HO hS5 he5
  go_wp2_with fail
  refine Calls.mono (k5_du hd) ?_
  rintro e w7 ⟨rfl, hd7, ho7⟩
  have he7 := EncR.only he6 ho7 hd1 hgd
  have hS7 := hS6.trans (ho7.below (B := w.heap.size) (by omega) hd.lt)
  clear hd he6 hS6
  go_wp2_with fail
  refine Calls.mono (k5_di hd7) ?_
  rintro e w8 ⟨rfl, hd8, ho8⟩
  have he8 := EncR.only he7 ho8 hd1 hgd
  have hS8 := hS7.trans (ho8.below (B := w.heap.size) (by omega) hd7.lt)
  clear hd7 he7 hS7
  go_wp2_with fail
  refine Calls.mono (k5_dr hd8) ?_
  rintro e w9 ⟨A9, c9, rfl, hr9, hd9, ho9, ha9⟩
  have he9 := EncR.only he8 ho9 hd1 hgd
  have hS9 := hS8.trans (ho9.below (B := w.heap.size) (by omega) hd8.lt)
  have hne9 : ∀ a, A9 = some a → a.block ≠ d := fun a e h => by have := ha9 a e; have := hd8.lt; omega
  clear he8 hS8 hd8 ha9
  have hdl9 := hd9.lt
  have HD := Lib.hid (k5_dw hd9)
  have HNE := Lib.hid hne9
  clear hne9 hd9
  go_wp2_with fail
  refine Calls.mono HD.out ?_
  rintro e w10 ⟨q, rfl, hr10, hd10, ho10, hq10⟩
  have he10 := EncR.only he9 ho10 hd1 hgd
  have hS10 := hS9.trans (ho10.below (B := w.heap.size) (by omega) hdl9)
  have hr9' := hr9.only ho10 HNE.out
  have he10' : EncR w.heap.size encK w10 := by
    obtain ⟨A, c, h1, h2⟩ := he10
    exact ⟨A, c, h1, h2.more (by have := ho7.size; have := ho8.size; have := ho9.size; have := ho10.size; have := hb6.size; omega)⟩
  have HS := Lib.hid hS10
  clear he9 hS9 hr9 HD HNE he10 hS10
  have HB := Lib.hid (enc_bytes w10 w.heap.size encK he10' (by decide))
  clear he10'
  go_wp2_with fail
  refine Calls.mono HB.out ?_
  rintro e w11 ⟨A11, c11, rfl, hc11, hr11, hb11, _⟩
  have q1 := conv_k (v := .slice A11 encK.length c11) ⟨A11, c11, rfl, hc11, hr11⟩
  have q2 := conv_ab (c := c9) (hr9'.below hb11)
  have q3 := rd_five (hr10.below hb11)
  have HL := Lib.hid (dec_left w11 d [] 0 (hd10.below hb11))
  have HE := Lib.hid (dec_err w11 d [] 0 (hd10.below hb11))
  have HS' := Lib.hid (HS.out.trans (hb11.mono (by have := ho7.size; have := ho8.size; have := ho9.size; have := ho10.size; have := hb6.size; omega)))
  have q0 := eqK
  clear hr11 hc11 HB HS hr9' hr10 hd10
  go_wp2_with fail
  refine Calls.mono HL.out ?_
  rintro e w12 ⟨rfl, rfl⟩
  go_wp2_with fail
  refine Calls.mono HE.out ?_
  rintro e w13 ⟨rfl, rfl⟩
  go_wp2_with fail
  go_ret
  exact ⟨rfl, HS'.out⟩
end Go.Proofs.Yteefcimepdbehaa
