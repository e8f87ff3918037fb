/- What loamref1.Put answers, for bytes of at most 2^31. -/
import Derived.Test.YtbiejbecocdhdaaBitsC
namespace Go.Proofs.Ytbiejbecocdhdaa
open Go.RowKit
attribute [local go_sem high] sliced_cut
attribute [local go_sem] cutA_zero
set_option maxHeartbeats 400000
theorem rput_c (bs : List (BitVec 8)) (A : Option Addr) (c : Nat) (at_ n : Int) (v : BitVec 64) (w : World) (B : Nat) (hr : Rd b8 w B A bs) (hB : B ≤ w.heap.size) (hcap : bs.length ≤ c) (hl : bs.length ≤ 2147483648) :
    Calls Try.prog 14 #[.slice A bs.length c, .int .i64 at_, .int .i64 n, .int .u64 (U64 v)] w (MkEP b8 5 (putB bs at_ n v) (errB bs.length at_ n) w) := by
  by_cases hin : inB bs.length at_ n = true
  · obtain ⟨h1, h2, h3, h4⟩ := inB_out hin
    obtain ⟨n, rfl⟩ := Int.eq_ofNat_of_zero_le (show 0 ≤ n by omega)
    obtain ⟨p, rfl⟩ := Int.eq_ofNat_of_zero_le h3
    have h4' : p + n ≤ bs.length := by omega
    go_enter Try.func14, Try.ntmps14
    have e1 : putB bs p n v = bs.take p ++ (lowN v n ++ bs.drop (p + n)) := by simp [putB, hin]
    have e2 : errB bs.length p n = 0 := by simp [errB, hin]
    rw [e1, e2]
    clear e1 e2
    have htk : p = (bs.take p).length := by simp; omega
    have HT := Lib.hid htk; clear htk
    have hle : n = (lowN v n).length := (lowN_len v n).symm
    have HN := Lib.hid hle; clear hle
    have hdr : bs.length - (p + n) = (bs.drop (p + n)).length := by simp
    have HD := Lib.hid hdr; clear hdr
    go_wp2_with (first
      | (go_at_call 26; refine (rin_c _ _ _ (by omega) (by omega) (by omega) (by omega) _).go.mono ?_; rintro e w' ⟨rfl, mm, rfl⟩; have ho0 := ow_empty b8 5 (w.drewN mm) w.heap.size (Nat.le_refl _); have hb0 : Below w.heap.size w ((w.drewN mm).alloc (.cells #[] 5)) := (bdrewN (Below.refl _ _) mm).alloc (Nat.le_refl _) _)
      | (at_builtin; refine wp_app one8 b8_one rfl (.tmp 25) (.tmp 28) rfl w.heap.size _ [] rfl ho0 A p c (bs.take p) rfl HT.out B ((hr.below (hb0.mono hB)).take p) (by simp; omega) (by decide) hb0.size ?_; intro v1 w1 ho1 hb1 _ _)
      | (go_at_call 27; refine (low_c v n (by omega) _).mono ?_; rintro e w2 ⟨A2, c2, rfl, hc2, ho2, hb2⟩)
      | (at_builtin; refine wp_app one8 b8_one rfl (.tmp 29) (.tmp 32) rfl w.heap.size v1 ([] ++ bs.take p) rfl (ho1.below hb2) A2 _ c2 (lowN v n) rfl rfl w2.heap.size ho2.rd (by simp [lowN_len]; omega) (by decide) (Nat.le_trans hb0.size (Nat.le_trans hb1.size hb2.size)) ?_; intro v3 w3 ho3 hb3 _ _; have hB3 : Below w.heap.size w w3 := hb0.trans (hb1.trans ((hb2.mono (Nat.le_trans hb0.size hb1.size)).trans hb3)))
      | (at_builtin; refine wp_app one8 b8_one rfl (.tmp 34) (.tmp 39) rfl w.heap.size v3 ([] ++ bs.take p ++ lowN v n) rfl ho3 (cutA A c (p + n)) _ (c - (p + n)) (bs.drop (p + n)) rfl HD.out B ((hr.below (hB3.mono hB)).cut hcap) (by simp [lowN_len]; omega) (by decide) hB3.size ?_; intro v4 w4 ho4 hb4 _ _)
      )
    all_goals go_ret2
    all_goals (refine MkEP.of (v := v4) ?_ (hB3.trans hb4); simpa using ho4)
  · have h' := inB_no hin
    have hb : inB bs.length at_ n = false := by simpa using hin
    have e1 : putB bs at_ n v = [] := by simp [putB, hb]
    have e2 : errB bs.length at_ n = 1 := by simp [errB, hb]
    have E1 := Lib.hid e1; clear e1
    have E2 := Lib.hid e2; clear e2
    go_enter Try.func14, Try.ntmps14
    go_wp2_with (go_at_call 26; refine (rin_c _ _ _ (by omega) (by omega) (by omega) (by omega) _).go.mono ?_; rintro e w' ⟨rfl, mm, rfl⟩)
    all_goals go_ret2
    all_goals (rw [E1.out, E2.out]; exact MkEP.of (Ow.nil_ _ _ _ _) (by first | exact Below.refl _ _ | exact bdrewN (Below.refl _ _) _))
end Go.Proofs.Ytbiejbecocdhdaa
