/- What bits.Put and its twin in loamref1 answer, for bytes of at most 2^31. -/
import Derived.Test.YtbiejbecocdhdaaBitsB
namespace Go.Proofs.Ytbiejbecocdhdaa
open Go.RowKit
attribute [local go_sem] shlU64 shrU64 andU64 orU64 andNotU64 addU64 subU64 u8_u64
set_option maxHeartbeats 400000
theorem copy8 : Try.prog.underlying 22 = some (.slice 5) ∧ (Try.prog.info? 5).map (·.size) = some 1 := ⟨by kernel_rfl, by kernel_rfl⟩
theorem put_c (bs : List (BitVec 8)) (A : Option Addr) (c : Nat) (at_ n : Int) (v : BitVec 64) (w : World) (B : Nat) (hr : Rd b8 w B A bs) (hB : B ≤ w.heap.size) (hl : bs.length ≤ 2147483648) :
    Calls Try.prog 13 #[.slice A bs.length c, .int .i64 at_, .int .i64 n, .int .u64 (U64 v)] w (MkEP b8 5 (putB bs at_ n v) (errB bs.length at_ n) w) := by
  by_cases h : inB bs.length at_ n = true
  · obtain ⟨h1, h2, h3, h4⟩ := inB_out h
    obtain ⟨n, rfl⟩ := Int.eq_ofNat_of_zero_le (show 0 ≤ n by omega)
    obtain ⟨p, rfl⟩ := Int.eq_ofNat_of_zero_le h3
    have h4' : p + n ≤ bs.length := by omega
    go_enter Try.func13, Try.ntmps13
    have hu8 := copy8
    obtain ⟨hu, hsz⟩ := hu8
    have HU := Lib.hid hu; clear hu
    have HS := Lib.hid hsz; clear hsz
    go_wp2_with (first
      | (go_at_call 25; refine (inside_c _ _ _ (by omega) (by omega) _).go.mono ?_; rintro e w' ⟨rfl, mm, rfl⟩)
      | (refine wp_copy HU.out HS.out b8_one rfl (.tmp 21) (.tmp 22) rfl w.heap.size g bs.length bs.length _ rfl ho1 A bs.length c bs rfl rfl B ((hr.drewN mm).below (hb1.mono hB)) ?_; intro w2 k2 hk2 ho2 hb2)
      | (at_make; (refine wp_make (f := b8) one8 rfl _ _ rfl (0 : BitVec 8) rfl w.heap.size bs.length _ _ _ _ rfl rfl rfl rfl (by omega) (by decide) (Nat.le_refl _) ?_); intro g w1 hg ho1 hb1 _; have Hg := Lib.hid hg; clear hg))
    have ho3 : Ow b8 5 w2 w.heap.size (.slice (some ⟨g, 0, none⟩) bs.length bs.length) bs := by
      have e : k2 = bs.length := by rw [hk2, List.length_replicate]; simp [Nat.min_def]
      rw [e, List.take_of_length_le (Nat.le_refl _), List.drop_of_length_le (by rw [List.length_replicate]; omega), List.append_nil] at ho2
      exact ho2
    have hb3 : Below w.heap.size w w2 := (bdrewN (Below.refl _ _) mm).trans (hb1.trans hb2)
    clear ho2 ho1 hb1 hb2 HU HS
    go_loopw [11, 25] (fun _ i wr => ∃ k : Nat, k ≤ n ∧ i = .int .i64 k ∧ Ow b8 5 wr w.heap.size (.slice (some ⟨g, 0, none⟩) bs.length bs.length) (bs.take p ++ (lowN v k ++ bs.drop (p + k))) ∧ Below w.heap.size w wr) (fun _ i _ => n - (intOf i).toNat)
    case atStart => exact ⟨0, by omega, rfl, by simpa [lowN] using ho3, hb3⟩
    case round =>
      obtain ⟨k, hk, rfl, ho, hb⟩ := hrel
      by_cases hlt : k < n
      · have hll : (bs.take p ++ (lowN v k ++ bs.drop (p + k))).length = bs.length := by simp [lowN_len]; omega
        obtain ⟨old, hc⟩ : ∃ u, wr.cell? ⟨g, p + k, none⟩ = some u := ⟨_, ho.cell (j := p + k) (by omega)⟩
        have hf := ho.free (p + k)
        have hset := ho.set (j := p + k) (by omega) ((v >>> (8 * k)).setWidth 8)
        have HSet := Lib.hid hset; clear hset hll
        have Hge := Lib.hid ho.ge
        go_wp2
        go_roundw
        case rel =>
          refine ⟨k + 1, by omega, by go_num, ?_, hb.setCell (p := ⟨g, p + k, none⟩) Hge.out.1 _⟩
          have h := HSet.out
          rw [List.drop_eq_getElem_cons (show p + k < bs.length by omega), set_mid _ _ _ _ p k (by simp; omega) (lowN_len v k)] at h
          rw [lowN_snoc, show p + (k + 1) = p + k + 1 from by omega]
          have e : Value.int .u8 (IntKind.u8.wrap (U64 (v >>> (8 * k)))) = b8 ((v >>> (8 * k)).setWidth 8) := val_u8 (u64_u8 _)
          rw [← e] at h
          exact h
        case measure => (first | (simp [intOf]; done) | (simp [intOf]; omega))
      · go_wp2
        go_ret2
        obtain rfl : k = n := by omega
        have e1 : putB bs p k v = bs.take p ++ (lowN v k ++ bs.drop (p + k)) := by simp [putB, h]
        have e2 : errB bs.length p k = 0 := by simp [errB, h]
        rw [e1, e2]
        have e3 : (bs.take p ++ (lowN v k ++ bs.drop (p + k))).length = bs.length := by simp [lowN_len]; omega
        exact MkEP.of ho hb
  · have h' := inB_no h
    have hb : inB bs.length at_ n = false := by simpa using h
    go_enter Try.func13, Try.ntmps13
    go_wp2_with (go_at_call 25; refine (inside_c _ _ _ (by omega) (by omega) _).go.mono ?_; rintro e w' ⟨rfl, mm, rfl⟩)
    go_ret2
    have e1 : putB bs at_ n v = [] := by simp [putB, hb]
    have e2 : errB bs.length at_ n = 1 := by simp [errB, hb]
    rw [e1, e2]
    exact MkEP.of (Ow.nil_ _ _ _ _) (bdrewN (Below.refl _ _) _)
end Go.Proofs.Ytbiejbecocdhdaa
