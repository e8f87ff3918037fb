/- What loamlaw1.known answers: true. No conditions. -/
import Derived.Test.YtbiejbecocdhdaaBitsD
import Derived.Test.YtbiejbecocdhdaaFrame
import Derived.Test.YtbiejbecocdhdaaStr
namespace Go.Proofs.Ytbiejbecocdhdaa
open Go.RowKit
theorem Ans.as {P : Program} {f : FuncId} {args : Array Value} {w : World} {v v' : Value} (h : Ans P f args w v) (e : v = v') : Ans P f args w v' := e ▸ h
def l123 : List (BitVec 8) := [1, 2, 3]
def l999 : List (BitVec 8) := [9, 9, 9]
theorem rd_new {w : World} {bs : List (BitVec 8)} {E : TypeId} {cs : Array Value} (h : cs = (bs.map b8).toArray) : Rd b8 (w.alloc (.cells cs E)) (w.heap.size + 1) (some ⟨w.heap.size, 0, none⟩) bs := fun j hj => by
  refine ⟨_, rfl, by simp, ?_⟩
  subst h
  have e : ((⟨w.heap.size, 0, none⟩ : Addr).add j) = ⟨w.heap.size, j, none⟩ := by unfold Addr.add; split <;> simp_all
  rw [e, cell_of_row _ _ _ _ _ _ (heap_alloc_new w _)]
  simp [hj]
theorem Ans.cast {P : Program} {f : FuncId} {args args' : Array Value} {w : World} {v v' : Value} (h : Ans P f args w v) (e1 : args = args') (e2 : v = v') : Ans P f args' w v' := e1 ▸ e2 ▸ h
theorem k_get (w : World) (B : Nat) (g : Nat) (hr : Rd b8 w B (some ⟨g, 0, none⟩) l123) : Ans Try.prog 11 #[.slice (some ⟨g, 0, none⟩) 3 3, .int .i64 1, .int .i64 2] w (.tuple #[.int .u64 770, .int .i64 0]) :=
  (get_c l123 (some ⟨g, 0, none⟩) 3 1 2 w B hr (by decide)).cast rfl (by kernel_rfl)
theorem k_get0 (w : World) : Ans Try.prog 11 #[.slice none 0 0, .int .i64 0, .int .i64 1] w (.tuple #[.int .u64 0, .int .i64 1]) :=
  (get_c [] none 0 0 1 w 0 Rd.nil (by decide)).cast rfl (by kernel_rfl)
theorem k_sign (w : World) : Ans Try.prog 16 #[.int .u64 255, .int .i64 8] w (.int .i64 (-1)) := (sign_c 255 8 w).cast (by kernel_rfl) (by kernel_rfl)
theorem k_narrow (w : World) : Ans Try.prog 18 #[.int .i64 300, .int .i64 8] w (.int .i64 44) := (narrow_c 300 8 w).cast (by kernel_rfl) (by kernel_rfl)
theorem k_field (w : World) : Ans Try.prog 15 #[.int .u64 43981, .int .i64 4, .int .i64 8] w (.int .u64 188) := (field_c 43981 4 8 w).cast (by kernel_rfl) (by kernel_rfl)
theorem k_with (w : World) : Ans Try.prog 20 #[.int .u64 0, .int .i64 4, .int .i64 4, .int .u64 255] w (.int .u64 240) := (with_c 0 4 4 255 w).cast (by kernel_rfl) (by kernel_rfl)
theorem k_turn (w : World) : Ans Try.prog 23 #[.int .u64 1, .int .i64 (-1)] w (.int .u64 9223372036854775808) := (turn_c 1 (-1) w).cast (by kernel_rfl) (by kernel_rfl)
theorem k_fits (w : World) : Ans Try.prog 19 #[.int .i64 127, .int .i64 8] w (.bool true) := (fits_c 127 8 w).cast (by kernel_rfl) (by kernel_rfl)
theorem k_fits2 (w : World) : Ans Try.prog 19 #[.int .i64 128, .int .i64 8] w (.bool false) := (fits_c 128 8 w).cast (by kernel_rfl) (by kernel_rfl)
def l943 : List (BitVec 8) := [9, 3, 4]
theorem k_put (w : World) (g : Nat) (hg : g < w.heap.size) (hr : Rd b8 w w.heap.size (some ⟨g, 0, none⟩) l999) : Calls Try.prog 13 #[.slice (some ⟨g, 0, none⟩) 3 3, .int .i64 1, .int .i64 2, .int .u64 1027] w fun e w' =>
    ∃ A c, e = .returned (.tuple #[.slice A 3 c, .int .i64 0]) ∧ Rd b8 w' w'.heap.size A l943 ∧ Below w.heap.size w w' := by
  have h := put_c l999 (some ⟨g, 0, none⟩) 3 1 2 1027 w w.heap.size hr (Nat.le_refl _) (by decide)
  have e : (#[.slice (some ⟨g, 0, none⟩) l999.length 3, .int .i64 1, .int .i64 2, .int .u64 (U64 1027)] : Array Value) = #[.slice (some ⟨g, 0, none⟩) 3 3, .int .i64 1, .int .i64 2, .int .u64 1027] := by kernel_rfl
  rw [e] at h
  have e2 : putB l999 1 2 1027 = l943 := by decide +kernel
  have e3 : errB l999.length 1 2 = 0 := by decide +kernel
  rw [e2, e3] at h
  refine h.mono ?_
  rintro e w' ⟨A, c, rfl, _, ho, hb⟩
  exact ⟨A, c, rfl, ho.rd, hb⟩
theorem k_str (A : Option Addr) (c B : Nat) (w : World) (h : Rd b8 w B A l943) : (convert 22 9 (.slice A 3 c)).run Try.prog w = .ok (.string ⟨#[9, 3, 4]⟩) w := str_conv l943 A c B w h
set_option maxHeartbeats 800000
theorem known_c (w : World) : Calls Try.prog 10 #[] w (TruP (.bool true) w) := by
  go_enter Try.func10, Try.ntmps10
  go_wp2_with fail
  refine (k_get _ _ _ (rd_new (by kernel_rfl))).go.mono ?_
  rintro e w1 ⟨rfl, m1, rfl⟩
  go_wp2_with fail
  have hbk := Bk.new (w.alloc (.cells #[.int .u8 1, .int .u8 2, .int .u8 3] 5)) 5 #[.int .u8 9, .int .u8 9, .int .u8 9]
  simp only [World.size_alloc] at hbk
  refine (k_put _ _ ?h1 ?h2).mono ?_
  case h1 => simp
  case h2 => exact (hbk.drewN m1).rd (by kernel_rfl) (by simp)
  rintro e w2 ⟨A, c, rfl, hr2, hb2⟩
  have hB : Below w.heap.size w w2 := (bdrewN (((Below.refl _ w).alloc (Nat.le_refl _) _).alloc (by simp) _) m1).trans (hb2.mono (by simp; omega))
  have hc2 := k_str A c _ w2 hr2
  have hc2' := fun n => k_str A c _ (w2.drewN n) (hr2.drewN n)
  clear hbk hb2 hr2
  go_wp2_with fail
  refine (k_get0 _).go.mono ?_
  rintro e w3 ⟨rfl, m3, rfl⟩
  go_wp2_with fail
  refine (k_sign _).go.mono ?_
  rintro e w3 ⟨rfl, m4, rfl⟩
  go_wp2_with fail
  refine (k_narrow _).go.mono ?_
  rintro e w3 ⟨rfl, m5, rfl⟩
  go_wp2_with fail
  refine (k_field _).go.mono ?_
  rintro e w3 ⟨rfl, m6, rfl⟩
  go_wp2_with fail
  refine (k_with _).go.mono ?_
  rintro e w3 ⟨rfl, m7, rfl⟩
  go_wp2_with fail
  refine (k_turn _).go.mono ?_
  rintro e w3 ⟨rfl, m8, rfl⟩
  go_wp2_with fail
  refine (k_fits _).go.mono ?_
  rintro e w3 ⟨rfl, m9, rfl⟩
  go_wp2_with fail
  refine (k_fits2 _).go.mono ?_
  rintro e w3 ⟨rfl, m10, rfl⟩
  go_wp2_with fail
  go_ret
  exact ⟨rfl, bdrewN hB _⟩
end Go.Proofs.Ytbiejbecocdhdaa
