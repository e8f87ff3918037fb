/- Texts joined: CrcR Str CrcE Known2 CrcF SupI SupK Only. -/
import Derived.Test.YtjcpbhjmmnpjnaaZa3
import Derived.LoopTactic
import Derived.Laws.BytesArg
import Derived.Laws.IdiomStrings
import Derived.Lib.SmallJoins
import Derived.ArgAppend
/- What Sum and Low of loamref2 answer. Conditions: at most 2^31 bytes. -/
namespace Go.Proofs.Ytjcpbhjmmnpjnaa
set_option linter.unusedVariables false
set_option linter.unusedSimpArgs false
open Go.RowKit
theorem bitsC_succ (k : Nat) (r : BitVec 32) : bitsC (k + 1) r = bitC (bitsC k r) := by rw [bitsC_add]; rfl
theorem and1U32 (r : BitVec 32) : bits .and .u32 (U32 r) 1 = if r.getLsbD 0 then 1 else 0 := by
  rw [show (1 : Int) = U32 1#32 from by decide +kernel, andU32]
  have e : r &&& 1#32 = if r.getLsbD 0 then 1#32 else 0#32 := by
    apply BitVec.eq_of_getLsbD_eq
    intro i hi
    rw [BitVec.getLsbD_and, BitVec.getLsbD_one]
    by_cases h : i = 0
    · subst h; cases r.getLsbD 0 <;> simp
    · cases r.getLsbD 0 <;> simp [h]
  rw [e]
  cases r.getLsbD 0 <;> decide +kernel
theorem shr1U32 (r : BitVec 32) : U32 r / (2 : Int) = U32 (r >>> 1) := by
  rw [show (2 : Int) = 2 ^ 1 from by decide, shrU32]
theorem xorPoly (r : BitVec 32) : bits .xor .u32 (U32 r) 3988292384 = U32 (r ^^^ 0xEDB88320#32) := by
  rw [show (3988292384 : Int) = U32 0xEDB88320#32 from by decide +kernel, xorU32]
set_option maxHeartbeats 400000
theorem rsum_c (bs : List (BitVec 8)) (A : Option Addr) (c B : Nat) (w : World) (hr : Rd b8 w B A bs) (hl : bs.length ≤ 2147483648) :
    Calls Try.prog 68 #[.slice A bs.length c] w fun e w' => e = .returned (.int .u32 (U32 (addC 0 bs))) ∧ w' = w := by
  have e00 : (4294967295 : Int) = U32 (~~~ 0#32) := by decide +kernel
  have E0 := Lib.hid e00
  clear e00
  go_enter Try.func68, Try.ntmps68
  go_wp2
  go_loop [3, 4] (fun r i => ∃ k : Nat, k ≤ bs.length ∧ i = .int .i64 k ∧ r = .int .u32 (U32 ((bs.take k).foldl stepC (~~~ 0#32)))) (fun _ i => bs.length - (intOf i).toNat)
  case atStart => exact ⟨0, by omega, rfl, by rw [E0.out]; rfl⟩
  case round =>
    obtain ⟨k, hk, rfl, rfl⟩ := hrel
    by_cases hlt : k < bs.length
    · obtain ⟨ad, rfl, _, hc⟩ := hr.at_ hlt
      unfold b8 at hc
      obtain ⟨r, hrr⟩ : ∃ r, r = (bs.take k).foldl stepC (~~~ 0#32) := ⟨_, rfl⟩
      rw [← hrr]
      obtain ⟨x, hx⟩ : ∃ x, x = bs[k] := ⟨_, rfl⟩
      rw [← hx] at hc
      obtain ⟨r1, h1⟩ : ∃ y, y = r ^^^ x.setWidth 32 := ⟨_, rfl⟩
      have e0 : U8 x % 4294967296 = U8 x := by have := U8_lo x; have := U8_hi x; omega
      have e1 : bits .xor .u32 (U32 r) (U8 x) = U32 r1 := by rw [h1, xorU32U8]
      have fin : (bs.take (k + 1)).foldl stepC (~~~ 0#32) = bitsC 8 r1 := by
        rw [take_snoc' _ _ hlt, List.foldl_append, ← hrr, ← hx, h1]
        show stepC r x = _
        rw [stepC_bits]
      have FIN := Lib.hid fin
      clear fin hrr hx h1
      go_wp2
      go_loop [3, 5] (fun c i => ∃ j : Nat, j ≤ 8 ∧ i = .int .i64 j ∧ c = .int .u32 (U32 (bitsC j r1))) (fun _ i => 8 - (intOf i).toNat)
      case atStart => exact ⟨0, by omega, rfl, rfl⟩
      case round =>
        obtain ⟨j, hj, rfl, rfl⟩ := hrel
        by_cases hj8 : j < 8
        · obtain ⟨q, hq⟩ : ∃ q, q = bitsC j r1 := ⟨_, rfl⟩
          rw [← hq]
          have hn : bitsC (j + 1) r1 = bitC q := by rw [bitsC_succ, hq]
          have a1 := and1U32 q
          have s1 := shr1U32 q
          have x1 := xorPoly (q >>> 1)
          have HN := Lib.hid hn
          clear hn hq
          cases hb : q.getLsbD 0
          · rw [hb] at a1
            simp only [Bool.false_eq_true, if_false] at a1
            have HB := Lib.hid hb
            clear hb
            go_wp2
            go_round
            case rel => exact ⟨j + 1, by omega, by go_num, by rw [HN.out]; unfold bitC; rw [HB.out]; rfl⟩
            case measure => (first | (simp [intOf]; done) | (simp [intOf]; omega))
          · rw [hb] at a1
            simp only [if_true] at a1
            have HB := Lib.hid hb
            clear hb
            go_wp2
            go_round
            case rel => exact ⟨j + 1, by omega, by go_num, by rw [HN.out]; unfold bitC; rw [HB.out]; rfl⟩
            case measure => (first | (simp [intOf]; done) | (simp [intOf]; omega))
        · have hj8' : j = 8 := by omega
          subst hj8'
          go_wp2
          go_round
          case rel => exact ⟨k + 1, by omega, by go_num, by rw [FIN.out]⟩
          case measure => (first | (simp [intOf]; done) | (simp [intOf]; omega))
    · have hkk : (bs.take k) = bs := List.take_of_length_le (by omega)
      have hn2 := notU32 (bs.foldl stepC (~~~ 0#32))
      rw [hkk]
      have HN := Lib.hid hn2
      clear hkk hn2
      go_wp2
      go_ret
      exact ⟨ret_int HN.out, rfl⟩
theorem ow_lit {α : Type} (f : α → Value) (E : TypeId) (w : World) (base : Nat) (xs : List α) (hb : base ≤ w.heap.size) (hl : xs.length ≤ maxLen) : Ow f E (w.alloc (.cells (xs.map f).toArray E)) base (.slice (some ⟨w.heap.size, 0, none⟩) xs.length xs.length) xs := by
  have h := World.ownsRow_lit (size := 1) (e := E) w (xs.map f).toArray xs.length hb hl (by simp)
  exact h
set_option maxRecDepth 100000
set_option maxHeartbeats 400000
attribute [local go_sem] m8_0 sh8 sh16 sh24 u32_u8
theorem rlow_c (s : BitVec 32) (w : World) : Calls Try.prog 67 #[.int .u32 (U32 s)] w (MkP b8 5 (tailL s) w) := by
  go_enter Try.func67, Try.ntmps67
  go_wp2
  go_ret
  exact MkP.of (ow_lit b8 5 w w.heap.size (tailL s) (Nat.le_refl _) (by simp [tailL, maxLen])) (Gw.alloc _ _)
end Go.Proofs.Ytjcpbhjmmnpjnaa
/- Bytes as a string: the conversion, as an equation for the walk. No conditions. -/
namespace Go.Proofs.Ytjcpbhjmmnpjnaa
set_option linter.unusedVariables false
set_option linter.unusedSimpArgs false
open Go.RowKit
def strL (bs : List (BitVec 8)) : List UInt8 := bs.map UInt8.ofBitVec
def strB (bs : List (BitVec 8)) : ByteArray := ⟨(strL bs).toArray⟩
theorem strB_inj {x y : List (BitVec 8)} (h : strB x = strB y) : x = y := by
  unfold strB strL at h
  injection h with h
  have h2 := congrArg Array.toList h
  simp only at h2
  have inj : ∀ a b : BitVec 8, UInt8.ofBitVec a = UInt8.ofBitVec b → a = b := fun a b e => by injection e
  induction x generalizing y with
  | nil => cases y <;> simp_all
  | cons a x ih => cases y with
    | nil => simp at h2
    | cons b y =>
      simp only [List.map_cons, List.cons.injEq] at h2
      rw [inj _ _ h2.1, ih (by simp [h2.2]) h2.2]
theorem str_conv (bs : List (BitVec 8)) (A : Option Addr) (c B : Nat) (w : World) (h : Rd b8 w B A bs) :
    (convert 22 9 (.slice A bs.length c)).run Try.prog w = .ok (.string (strB bs)) w := by
  rcases Nat.eq_zero_or_pos bs.length with h0 | hp
  · have : bs = [] := List.eq_nil_of_length_eq_zero h0
    subst this
    rcases A with _ | ad
    · exact run_convert_bytes_nil w _ 5 (by kernel_rfl) (by kernel_rfl) 0 c _ (by kernel_rfl)
    · exact run_convert_bytes_back w _ _ 5 ad c [] (by kernel_rfl) (by kernel_rfl) (by kernel_rfl) (fun j hj => absurd hj (by simp))
  · obtain ⟨ad, rfl, _, hc⟩ := h.addr hp
    have e : bs.length = (strL bs).length := by simp [strL]
    rw [e]
    refine run_convert_bytes_back w _ _ 5 ad c (strL bs) (by kernel_rfl) (by kernel_rfl) (by kernel_rfl) (fun j hj => ?_)
    have hj' : j < bs.length := by rw [e]; exact hj
    rw [hc j hj']
    simp [b8, U8, strL]
end Go.Proofs.Ytjcpbhjmmnpjnaa
/- What the functions of loamref2 answer. Conditions: at most 2^30 bytes. -/
namespace Go.Proofs.Ytjcpbhjmmnpjnaa
set_option linter.unusedVariables false
set_option linter.unusedSimpArgs false
open Go.RowKit
end Go.Proofs.Ytjcpbhjmmnpjnaa
/- What loamlaw2.known answers: true. No conditions. -/
namespace Go.Proofs.Ytjcpbhjmmnpjnaa
set_option linter.unusedVariables false
set_option linter.unusedSimpArgs false
open Go.RowKit
def l1234 : List (BitVec 8) := [49, 50, 51, 52]
def l5 : List (BitVec 8) := [53, 54, 55, 56, 57]
def lx : List (BitVec 8) := [120]
def labc : List (BitVec 8) := [97, 98, 99]
/-- Block g has the cells cs, whatever of it is frozen. -/
def Fk (w : World) (g : Nat) (E : TypeId) (cs : Array Value) : Prop := ∃ fr, w.heap[g]? = some (.cells cs E fr)
section
variable {W W' : World} {g B : Nat} {E : TypeId} {cs : Array Value}
theorem fk_at {fr : Nat × Nat} (h : g = W.heap.size) : Fk (W.alloc (.cells cs E fr)) g E cs := h ▸ ⟨fr, heap_alloc_new W _⟩
theorem Fk.lt (h : Fk W g E cs) : g < W.heap.size := by
  obtain ⟨fr, h⟩ := h
  rcases Nat.lt_or_ge g W.heap.size with hl | hl
  · exact hl
  · rw [Array.getElem?_eq_none hl] at h; cases h
theorem Fk.alloc (h : Fk W g E cs) (o : Obj) : Fk (W.alloc o) g E cs := ⟨h.choose, (Below.heap_alloc W o g h.lt).trans h.choose_spec⟩
theorem Fk.drew (h : Fk W g E cs) : Fk W.drew g E cs := h
theorem Fk.drewN (h : Fk W g E cs) (n : Nat) : Fk (W.drewN n) g E cs := h
theorem Fk.below (h : Fk W g E cs) (hb : Below B W W') (hg : g < B) : Fk W' g E cs := ⟨h.choose, (hb.block g hg).trans h.choose_spec⟩
theorem Fk.rd {α : Type} {f : α → Value} {xs : List α} (h : Fk W g E cs) (e : cs = (xs.map f).toArray) (hB : g < B) : Rd f W B (some ⟨g, 0, none⟩) xs := fun j hj => by
  refine ⟨_, rfl, hB, ?_⟩
  have e2 : ((⟨g, 0, none⟩ : Addr).add j) = ⟨g, j, none⟩ := by unfold Addr.add; split <;> simp_all
  rw [e2, Joins.cell_of_block h.choose_spec, e]
  simp [hj]
end
theorem kc_at (w : World) (C : Array Value) (n c g : Nat) (hg : g = w.heap.size) : (convert 22 22 (.slice (some ⟨g, 0, none⟩) n c)).run Try.prog (w.alloc (.cells C 5)) = .ok (.slice (some ⟨g, 0, none⟩) n c) (w.alloc (.cells C 5 (C.size, C.size + 1))) :=
  Joins.run_convert_bytes_const_at w 22 5 C n c g hg Try.underlying22 Try.underlying5
attribute [local go_sem] kc_at
theorem right_short (A : Option Addr) (n c : Nat) (w : World) (hn : (n : Int) < 4) : Calls Try.prog 45 #[.slice A n c] w (RetP (.bool false) w) := by
  go_enter Try.func45, Try.ntmps45
  go_wp2
  go_ret
  exact ret_b rfl (by repeat (first | with_reducible assumption | with_reducible exact Below.refl _ _ | with_reducible apply bdN | with_reducible apply Below.drew | with_reducible refine Below.alloc ?_ (by simp) _ | with_reducible refine Below.setCell ?_ (by simp) _))
theorem k_sum2 (w : World) (g1 g2 g3 : Nat) (h1 : Fk w g1 5 #[.int .u8 49, .int .u8 50, .int .u8 51, .int .u8 52]) (h2 : Fk w g2 5 #[.int .u8 53, .int .u8 54, .int .u8 55, .int .u8 56, .int .u8 57]) (h3 : Fk w g3 22 #[.slice (some ⟨g1, 0, none⟩) 4 4, .slice (some ⟨g2, 0, none⟩) 5 5]) :
    Calls Try.prog 63 #[.slice (some ⟨g3, 0, none⟩) 2 2] w (RetP (.int .u32 3421780262) w) := by
  have h := sum_c [((some ⟨g1, 0, none⟩, l1234, 4) : Pt), ((some ⟨g2, 0, none⟩, l5, 5) : Pt)] (some ⟨g3, 0, none⟩) 2 w (h3.rd rfl h3.lt) (by
    intro p hp
    simp only [List.mem_cons, List.not_mem_nil, or_false] at hp
    rcases hp with rfl | rfl
    · exact ⟨h1.rd (by kernel_rfl) h1.lt, by simp [l1234]⟩
    · exact ⟨h2.rd (by kernel_rfl) h2.lt, by simp [l5]⟩) (by simp)
  have e : U32 (sumC (List.map Pt.l [((some ⟨g1, 0, none⟩, l1234, 4) : Pt), ((some ⟨g2, 0, none⟩, l5, 5) : Pt)])) = 3421780262 := by
    show U32 (addC (addC 0 l1234) l5) = _
    decide +kernel
  rw [e] at h
  exact h
theorem sum1_f (bs : List (BitVec 8)) (A : Option Addr) (c g : Nat) (w : World) (E : TypeId) (hk : Fk w g E #[.slice A bs.length c]) (hr : Rd b8 w w.heap.size A bs) (hl : bs.length ≤ 2147483648) :
    Calls Try.prog 63 #[.slice (some ⟨g, 0, none⟩) 1 1] w (RetP (.int .u32 (U32 (addC 0 bs))) w) := by
  refine sum_c [((A, bs, c) : Pt)] (some ⟨g, 0, none⟩) 1 w (hk.rd rfl hk.lt) ?_ (by simp)
  intro p hp
  rw [List.mem_singleton] at hp
  subst hp
  exact ⟨hr, hl⟩
theorem k_sum1 (w : World) (g1 g3 : Nat) (h1 : Fk w g1 5 #[.int .u8 49, .int .u8 50, .int .u8 51, .int .u8 52]) (h3 : Fk w g3 22 #[.slice (some ⟨g1, 0, none⟩) 4 4]) :
    Calls Try.prog 63 #[.slice (some ⟨g3, 0, none⟩) 1 1] w (RetP (.int .u32 (U32 (addC 0 l1234))) w) :=
  sum1_f l1234 (some ⟨g1, 0, none⟩) 4 g3 w 22 h3 (h1.rd (by kernel_rfl) h1.lt) (by decide)
theorem k_add (w : World) (g2 : Nat) (h2 : Fk w g2 5 #[.int .u8 53, .int .u8 54, .int .u8 55, .int .u8 56, .int .u8 57]) :
    Calls Try.prog 70 #[.int .u32 (U32 (addC 0 l1234)), .slice (some ⟨g2, 0, none⟩) 5 5] w (RetP (.int .u32 3421780262) w) := by
  have h := add_c (addC 0 l1234) l5 (some ⟨g2, 0, none⟩) 5 w (h2.rd (by kernel_rfl) h2.lt) (by decide)
  rw [show U32 (addC (addC 0 l1234) l5) = 3421780262 from by decide +kernel] at h
  exact h
theorem k_sealx (w : World) (g : Nat) (h : Fk w g 5 #[.int .u8 120]) : Calls Try.prog 55 #[.slice (some ⟨g, 0, none⟩) 1 1] w fun e w' => ∃ A c, e = .returned (.slice A 5 c) ∧ 5 ≤ c ∧ Rd b8 w' w'.heap.size A (sealC lx) ∧ Below w.heap.size w w' := by
  refine (seal_c lx (some ⟨g, 0, none⟩) 1 w (h.rd (by kernel_rfl) h.lt) (by decide)).mono ?_
  rintro e w' ⟨A, c, rfl, hc, ho, hb⟩
  exact ⟨A, c, rfl, hc, ho.rd, hb⟩
theorem k_seal0 (w : World) : Calls Try.prog 55 #[.slice none 0 0] w fun e w' => ∃ A c, e = .returned (.slice A 4 c) ∧ Below w.heap.size w w' := by
  refine (seal_c [] none 0 w Rd.nil (by decide)).mono ?_
  rintro e w' ⟨A, c, rfl, hc, ho, hb⟩
  exact ⟨A, c, rfl, hb⟩
theorem skA {w W : World} (h : Below w.heap.size w W ∧ w.heap.size ≤ W.heap.size) (o : Obj) : Below w.heap.size w (W.alloc o) ∧ w.heap.size ≤ (W.alloc o).heap.size := ⟨h.1.alloc h.2 o, by simp; omega⟩
theorem skD {w W : World} (h : Below w.heap.size w W ∧ w.heap.size ≤ W.heap.size) : Below w.heap.size w W.drew ∧ w.heap.size ≤ W.drew.heap.size := ⟨h.1.drew, h.2⟩
theorem skB {w W W' : World} (h : Below w.heap.size w W ∧ w.heap.size ≤ W.heap.size) (hb : Below W.heap.size W W') : Below w.heap.size w W' ∧ w.heap.size ≤ W'.heap.size := ⟨h.1.trans (hb.mono h.2), Nat.le_trans h.2 hb.size⟩
theorem right4_seal (xs : List (BitVec 8)) : right4 xs ((addC 0 xs).setWidth 8) ((addC 0 xs >>> 8).setWidth 8) ((addC 0 xs >>> 16).setWidth 8) ((addC 0 xs >>> 24).setWidth 8) = true := by simp [right4]
theorem right_seal (xs : List (BitVec 8)) (A : Option Addr) (c n : Nat) (w : World) (hr : Rd b8 w w.heap.size A (sealC xs)) (hn : n = xs.length + 4) (hc : n ≤ c) (hl : xs.length ≤ 1073741824) :
    Calls Try.prog 45 #[.slice A n c] w (RetP (.bool true) w) := by
  subst hn
  have h := right_c xs _ _ _ _ A c w hr hc hl
  rw [right4_seal] at h
  exact h
set_option maxHeartbeats 800000
set_option maxRecDepth 100000
end Go.Proofs.Ytjcpbhjmmnpjnaa
/- What Low, Seal, Right of loamref2 answer. Conditions: at most 2^30 bytes. -/
namespace Go.Proofs.Ytjcpbhjmmnpjnaa
set_option linter.unusedVariables false
set_option linter.unusedSimpArgs false
open Go.RowKit
set_option maxRecDepth 100000
set_option maxHeartbeats 400000
attribute [local go_sem] m8_0 sh8 sh16 sh24 u32_u8
theorem rseal_c (bs : List (BitVec 8)) (A : Option Addr) (c : Nat) (w : World) (hr : Rd b8 w w.heap.size A bs) (hl : bs.length ≤ 1073741824) :
    Calls Try.prog 60 #[.slice A bs.length c] w (MkP b8 5 (sealC bs) w) := by
  have ho0 := ow_empty b8 5 w w.heap.size (Nat.le_refl _)
  go_enter Try.func60, Try.ntmps60
  go_wp2_with (first
    | (at_builtin; refine wp_app one8 b8_one rfl (.tmp 3) (.tmp 4) rfl w.heap.size _ [] rfl ho0 A bs.length c bs rfl rfl w.heap.size (hr.alloc (Nat.le_refl _) _) (by simp; omega) (by decide) (by simp) ?_; intro v4 w4 ho4 hb4 hg4 _)
    | (go_at_call 68; refine (rsum_c bs A c w.heap.size _ ((hr.alloc (Nat.le_refl _) _).below hb4) (by omega)).mono ?_; rintro e w5 ⟨rfl, rfl⟩)
    | (go_at_call 67; refine (rlow_c _ _).mono ?_; rintro e w6 ⟨A6, c6, rfl, hc6, ho6, hb6⟩)
    | (at_builtin; refine wp_app one8 b8_one rfl (.tmp 5) (.tmp 8) rfl w.heap.size v4 ([] ++ bs) rfl (ho4.below hb6) A6 (tailL (addC 0 bs)).length c6 (tailL (addC 0 bs)) rfl rfl w6.heap.size ho6.rd (by simp [tailL]; omega) (by decide) (Nat.le_trans ((Gw.alloc w _).trans hb4).size hb6.size) ?_; intro v7 w7 ho7 hb7 _ _))
  go_ret
  exact MkP.of (by simpa [sealC] using ho7) ((((Gw.alloc w _).trans hb4).trans (hb6.mono ((Gw.alloc w _).trans hb4).size)).trans hb7)
def rightL (bs : List (BitVec 8)) : Bool := decide (4 ≤ bs.length) && tailL (addC 0#32 (bs.take (bs.length - 4))) == bs.drop (bs.length - 4)
theorem sum_r (xs : List (BitVec 8)) (A : Option Addr) (c n : Nat) (w : World) (hn : n = xs.length) (hr : Rd b8 w w.heap.size A xs) (hl : xs.length ≤ 2147483648) : Calls Try.prog 68 #[.slice A n c] w fun e w2 => ∃ v, e = .returned v ∧ Below w.heap.size w w2 ∧ IsV (.int .u32 (U32 (addC 0#32 xs))) v w2 := by
  subst hn
  exact (rsum_c xs A c _ w hr hl).mono fun e w2 h => ⟨_, h.1, by rw [h.2]; exact Below.refl _ _, rfl⟩
theorem low_r (s : BitVec 32) (w : World) : Calls Try.prog 67 #[.int .u32 (U32 s)] w fun e w2 => ∃ v, e = .returned v ∧ Below w.heap.size w w2 ∧ SlV b8 (tailL s) v w2 :=
  (rlow_c s w).mono fun e w2 h => by
    obtain ⟨A, c, rfl, hc, ho, hb⟩ := h
    exact ⟨_, rfl, hb, A, c, rfl, hc, ho.rd⟩
theorem strB_beq (x y : List (BitVec 8)) : ((strB x).toList == (strB y).toList) = (x == y) := by
  rw [Bool.eq_iff_iff, beq_iff_eq, beq_iff_eq]
  constructor
  · intro h
    apply strB_inj
    rw [ByteArray.toList_eq, ByteArray.toList_eq] at h
    have h2 := Array.ext' h
    exact congrArg ByteArray.mk h2
  · intro h; rw [h]
theorem rightL_no (bs : List (BitVec 8)) (h : bs.length < 4) : rightL bs = false := by
  unfold rightL
  rw [Bool.and_eq_false_iff]; left
  rw [decide_eq_false_iff_not]; omega
theorem rightL_yes (bs : List (BitVec 8)) (h : 4 ≤ bs.length) : rightL bs = (tailL (addC 0#32 (bs.take (bs.length - 4))) == bs.drop (bs.length - 4)) := by
  unfold rightL
  have : decide (4 ≤ bs.length) = true := by rw [decide_eq_true_eq]; exact h
  rw [this, Bool.true_and]
theorem right_l (bs : List (BitVec 8)) (A : Option Addr) (c : Nat) (w : World) (hr : Rd b8 w w.heap.size A bs) (hc : bs.length ≤ c) (hl : bs.length ≤ 1073741824) :
    Calls Try.prog 45 #[.slice A bs.length c] w (RetP (.bool (rightL bs)) w) := by
  rcases Nat.lt_or_ge bs.length 4 with h4 | h4
  · rw [rightL_no bs h4]
    exact right_short A bs.length c w (by omega)
  · obtain ⟨xs, y0, y1, y2, y3, rfl⟩ : ∃ xs y0 y1 y2 y3, bs = xs ++ [y0, y1, y2, y3] := by
      refine ⟨bs.take (bs.length - 4), bs[bs.length - 4], bs[bs.length - 3], bs[bs.length - 2], bs[bs.length - 1], ?_⟩
      apply List.ext_getElem
      · simp; omega
      · intro i h1 h2
        rw [List.getElem_append]
        split
        · rw [List.getElem_take]
        · rename_i h
          simp at h h2
          have : i = bs.length - 4 ∨ i = bs.length - 3 ∨ i = bs.length - 2 ∨ i = bs.length - 1 := by omega
          have e : (bs.take (bs.length - 4)).length = bs.length - 4 := by simp
          simp only [e]
          rcases this with e | e | e | e <;> subst e
          · simp
          · simp [show bs.length - 3 - (bs.length - 4) = 1 from by omega]
          · simp [show bs.length - 2 - (bs.length - 4) = 2 from by omega]
          · simp [show bs.length - 1 - (bs.length - 4) = 3 from by omega]
    have hL : (xs ++ [y0, y1, y2, y3]).length = xs.length + 4 := by simp
    rw [rightL_yes _ h4, hL]
    have h := right_c xs y0 y1 y2 y3 A c w hr (by rw [hL] at hc; exact hc) (by omega)
    have e : right4 xs y0 y1 y2 y3 = (tailL (addC 0#32 ((xs ++ [y0, y1, y2, y3]).take (xs.length + 4 - 4))) == (xs ++ [y0, y1, y2, y3]).drop (xs.length + 4 - 4)) := by
      rw [Nat.add_sub_cancel, List.take_left, List.drop_left]
      unfold right4 tailL
      rw [Bool.eq_iff_iff]
      simp
    rw [e] at h
    exact h
end Go.Proofs.Ytjcpbhjmmnpjnaa
/- What loamref6.Encode answers. No conditions but on the numbers. -/
namespace Go.Proofs.Ytjcpbhjmmnpjnaa
set_option linter.unusedVariables false
set_option linter.unusedSimpArgs false
open Go.RowKit
set_option maxRecDepth 100000
set_option maxHeartbeats 800000
theorem low_nat (n : Nat) (k : Nat) (hn : n < 2 ^ 64) (hk : k ≤ 8) (w : World) : Calls Try.prog 59 #[.int .u64 (n : Int), .int .i64 k] w (MkP b8 5 (lowN (BitVec.ofNat 64 n) k) w) := by
  have h := low_c (BitVec.ofNat 64 n) k hk w
  rwa [u64nat n hn] at h
theorem renc6_bad (ep : BitVec 64) (s l n sp wd : Int) (lg : BitVec 64) (w : World) (h : badS s l n sp wd) : Calls Try.prog 40 #[blkV ep s l n sp wd lg] w (RetP (.tuple #[.slice none 0 0, .int .i64 1]) w) := by
  have HC := Lib.hid (fun W => rcheck_c s l n W)
  have HK := Lib.hid (Bk.new w 41 #[.int .u64 (U64 ep), .int .i64 s, .int .i64 l, .int .i64 n, .int .i64 sp, .int .i64 wd, .int .u64 (U64 lg)])
  have HB := Lib.hid (Gw.alloc w (.cells #[.int .u64 (U64 ep), .int .i64 s, .int .i64 l, .int .i64 n, .int .i64 sp, .int .i64 wd, .int .u64 (U64 lg)] 41))
  obtain ⟨c0, c1, c2, c3, c4, c5, c6⟩ := HK.out.seven
  unfold blkV
  unfold gV at HC
  rcases (show okG s l n = false ∨ (okG s l n = true ∧ ¬ sp = 0 ∧ ¬ sp = 1) ∨ (okG s l n = true ∧ sp = 0 ∧ wd < 0) ∨ (okG s l n = true ∧ sp = 1 ∧ wd < 0) ∨ (okG s l n = true ∧ sp = 0 ∧ ¬ wd < 0 ∧ n < wd) ∨ (okG s l n = true ∧ sp = 1 ∧ ¬ wd < 0 ∧ n < wd) from by
    unfold badS at h
    by_cases hg : okG s l n = true
    · right
      have h2 : sp < 0 ∨ 1 < sp ∨ wd < 0 ∨ n < wd := by
        rcases h with h | h
        · rw [hg] at h; cases h
        · exact h
      simp only [hg, true_and]
      by_cases h3 : sp = 0
      · by_cases h4 : wd < 0
        · exact .inr (.inl ⟨h3, h4⟩)
        · exact .inr (.inr (.inr (.inl ⟨h3, h4, by omega⟩)))
      · by_cases h5 : sp = 1
        · by_cases h4 : wd < 0
          · exact .inr (.inr (.inl ⟨h5, h4⟩))
          · exact .inr (.inr (.inr (.inr ⟨h5, h4, by omega⟩)))
        · exact .inl ⟨h3, h5⟩
    · exact .inl (by simpa using hg)) with hg | ⟨hg, h1, h2⟩ | ⟨hg, rfl, h1⟩ | ⟨hg, rfl, h1⟩ | ⟨hg, rfl, h1, h2⟩ | ⟨hg, rfl, h1, h2⟩
  all_goals
    have hc : chkG s l n = (if okG s l n then 0 else 1) := rfl
    rw [hg] at hc
    simp only [Bool.false_eq_true, if_false, if_true] at hc
    rw [hc] at HC
    clear hc hg h
    go_enter Try.func40, Try.ntmps40
    go_wp2_with fail
    refine Calls.mono (HC.out _) ?_
    rintro e w1 ⟨rfl, b1⟩
    have HB1 := Lib.hid (HB.out.trans (b1.mono HB.out.size))
    have HK1 := Lib.hid (HK.out.below b1 HK.out.lt)
    clear b1 c0 c1 c2 c3 c4 c5 c6
    obtain ⟨c0, c1, c2, c3, c4, c5, c6⟩ := HK1.out.seven
    go_wp2_with fail
    go_ret2
    exact ⟨rfl, HB1.out⟩
end Go.Proofs.Ytjcpbhjmmnpjnaa
/- loamref6.Encode of a block that may be. No conditions but on the numbers. -/
namespace Go.Proofs.Ytjcpbhjmmnpjnaa
set_option linter.unusedVariables false
set_option linter.unusedSimpArgs false
open Go.RowKit
set_option maxRecDepth 100000
set_option maxHeartbeats 2000000
/-- The block, and the row, of a walk through loamref6.Encode. -/
def RefB (w W : World) (cs : Array Value) (v : Value) (bs : List (BitVec 8)) : Prop := Bk W w.heap.size 41 cs ∧ Ow b8 5 W (w.heap.size + 1) v bs ∧ Below w.heap.size w W
theorem RefB.below {w W W' : World} {cs : Array Value} {v : Value} {bs : List (BitVec 8)} (h : RefB w W cs v bs) (hb : Below W.heap.size W W') : RefB w W' cs v bs := ⟨h.1.below hb h.1.lt, h.2.1.below hb, h.2.2.trans (hb.mono h.2.2.size)⟩
theorem RefB.app {w W W' : World} {cs : Array Value} {v v' : Value} {bs bs' : List (BitVec 8)} (h : RefB w W cs v bs) (hb : Below (w.heap.size + 1) W W') (ho : Ow b8 5 W' (w.heap.size + 1) v' bs') : RefB w W' cs v' bs' := ⟨h.1.below hb (Nat.lt_succ_self _), ho, h.2.2.trans (hb.mono (Nat.le_succ _))⟩
theorem RefB.lt {w W : World} {cs : Array Value} {v : Value} {bs : List (BitVec 8)} (h : RefB w W cs v bs) : w.heap.size + 1 ≤ W.heap.size := h.1.lt
theorem head2 (ep : BitVec 64) (s l n sp wd : Nat) (lg : BitVec 64) : headB ep s l n sp wd lg 2 = [76#8, 79#8, 65#8, 77#8] ++ [1#8, 0#8, 0#8, 0#8] := by
  unfold headB numsL
  simp only [List.take_succ_cons, List.take_zero, List.flatMap_cons, List.flatMap_nil]
  decide +kernel
theorem new_mark (W : World) (E : TypeId) (cs : List Value) (fr : Nat × Nat) (g : Nat) (hg : g = W.heap.size) : ∀ j u, cs[j]? = some u → (W.alloc (.cells cs.toArray E fr)).cell? ((⟨g, 0, none⟩ : Addr).add j) = some u := by
  subst hg
  intro j u h
  have e2 : ((⟨W.heap.size, 0, none⟩ : Addr).add j) = ⟨W.heap.size, j, none⟩ := by unfold Addr.add; by_cases k : j = 0 <;> simp [k]
  rw [e2, cell_of_row _ _ j _ _ _ (heap_alloc_new W (.cells cs.toArray E fr))]
  simpa using h
theorem new_behind (W : World) (E F : TypeId) (cs : List Value) (fr : Nat × Nat) (ds : Array Value) (g : Nat) (hg : g = W.heap.size) : ∀ b, some (⟨g, 0, none⟩ : Addr) = some b → ∀ j u, cs[j]? = some u → ((W.alloc (.cells cs.toArray E fr)).alloc (.cells ds F)).cell? (b.add j) = some u := by
  intro b e j u h
  injection e with e
  subst e
  rw [World.cell?_alloc_lt _ _ _ (by rw [add_block]; subst hg; simp)]
  exact new_mark W E cs fr g hg j u h
theorem ref_start {w w1 w2 : World} {cs : Array Value} {v2 : Value} (hk : Bk w1 w.heap.size 41 cs) (hb : Below w.heap.size w w1) (o1 o2 : Obj) (hg : ((w1.alloc o1).alloc o2).grownBy w2 none)
    (ho : w2.ownsRow ((w1.alloc o1).alloc o2).heap.size 5 1 v2 (4 + 4) ([.int .u8 76, .int .u8 79, .int .u8 65, .int .u8 77] ++ [.int .u8 1, .int .u8 0, .int .u8 0, .int .u8 0])) : RefB w w2 cs v2 ([76#8, 79#8, 65#8, 77#8] ++ [1#8, 0#8, 0#8, 0#8]) := by
  have hb2 : Below ((w1.alloc o1).alloc o2).heap.size ((w1.alloc o1).alloc o2) w2 := (Below.refl _ _).grown hg (Nat.le_refl _) (by simp)
  have hs := hb.size
  have hl := hk.lt
  refine ⟨((hk.alloc _).alloc _).below hb2 (by simp; omega), Ow.mono (show Ow b8 5 w2 ((w1.alloc o1).alloc o2).heap.size v2 ([76#8, 79#8, 65#8, 77#8] ++ [1#8, 0#8, 0#8, 0#8]) from ho) (by simp; omega), ?_⟩
  exact ((hb.trans ((Gw.alloc w1 o1).mono hs)).trans ((Gw.alloc _ o2).mono (by simp; omega))).trans (hb2.mono (by simp; omega))
theorem low8 (v : BitVec 64) (W : World) : Calls Try.prog 59 #[.int .u64 (U64 v), .int .i64 8] W (MkP b8 5 (lowN v 8) W) := low_c v 8 (by decide) W
theorem low4 (n : Nat) (x : Int) (hx : x = (n : Int)) (hn : n < 2 ^ 64) (W : World) : Calls Try.prog 59 #[.int .u64 x, .int .i64 4] W (MkP b8 5 (lowN (BitVec.ofNat 64 n) 4) W) := by
  subst hx
  exact low_nat n 4 hn (by decide) W
def lenV : Value → Nat
  | .slice _ n _ => n
  | _ => 0
theorem renc6_ok (ep : BitVec 64) (s l n sp wd : Nat) (lg : BitVec 64) (w : World) (h : goodS s l n sp wd) : Calls Try.prog 40 #[blkV ep s l n sp wd lg] w (Enc6P (encSB ep s l n sp wd lg) w) := by
  obtain ⟨hg, hsp, hwd⟩ := h
  have og := okG_out hg
  have b1 := og.s1
  have b2 := og.s2
  have b3 := og.l2
  have b4 := og.n2
  have HC := Lib.hid (fun W => rcheck_c (s : Int) l n W)
  have hc : chkG s l n = (if okG s l n then 0 else 1) := rfl
  rw [hg] at hc
  simp only [if_true] at hc
  rw [hc] at HC
  unfold gV at HC
  have HX := Lib.hid (show 64 ≤ s ∧ s ≤ 1024 ∧ l ≤ 1024 ∧ n ≤ 8192 ∧ sp ≤ 1 ∧ wd ≤ 8192 from by omega)
  have HK := Lib.hid (Bk.new w 41 #[.int .u64 (U64 ep), .int .i64 (s : Int), .int .i64 (l : Int), .int .i64 (n : Int), .int .i64 (sp : Int), .int .i64 (wd : Int), .int .u64 (U64 lg)])
  have HB := Lib.hid (Gw.alloc w (.cells #[.int .u64 (U64 ep), .int .i64 (s : Int), .int .i64 (l : Int), .int .i64 (n : Int), .int .i64 (sp : Int), .int .i64 (wd : Int), .int .u64 (U64 lg)] 41))
  obtain ⟨c0, c1, c2, c3, c4, c5, c6⟩ := HK.out.seven
  have q3 : ¬ (wd : Int) < 0 := by omega
  have q4 : ¬ (n : Int) < (wd : Int) := by omega
  have p1 : (0 : Int) ≤ (s : Int) ∧ (s : Int) ≤ 1024 := by omega
  have p2 : (0 : Int) ≤ (l : Int) ∧ (l : Int) ≤ 1024 := by omega
  have p3 : (0 : Int) ≤ (n : Int) ∧ (n : Int) ≤ 8192 := by omega
  have p5 : (0 : Int) ≤ (wd : Int) ∧ (wd : Int) ≤ 8192 := by omega
  clear hg og hc b1 b2 b3 b4
  unfold blkV
  rcases (show sp = 0 ∨ sp = 1 from by omega) with rfl | rfl
  · go_enter Try.func40, Try.ntmps40
    go_wp2_with fail
    refine Calls.mono (HC.out _) ?_
    rintro e w1 ⟨rfl, b1⟩
    have HB1 := Lib.hid (HB.out.trans (b1.mono HB.out.size))
    have HK1 := Lib.hid (HK.out.below b1 HK.out.lt)
    have kc := Joins.run_convert_bytes_const_at (P := Try.prog) w1 22 5 #[.int .u8 76, .int .u8 79, .int .u8 65, .int .u8 77] 4 4 w1.heap.size rfl Try.underlying22 Try.underlying5
    have HO := Lib.hid (new_behind w1 5 5 [.int .u8 76, .int .u8 79, .int .u8 65, .int .u8 77] (4, 5) #[.int .u8 1, .int .u8 0, .int .u8 0, .int .u8 0] w1.heap.size rfl)
    have HNw := Lib.hid (new_mark (w1.alloc (.cells #[.int .u8 76, .int .u8 79, .int .u8 65, .int .u8 77] 5 (4, 5))) 5 [.int .u8 1, .int .u8 0, .int .u8 0, .int .u8 0] (0, 0) (w1.heap.size + 1) (by simp))
    obtain ⟨i0, hi0, hz0, hs0, hb0⟩ := one8.info
    have HI := Lib.hid (And.intro hi0 (And.intro hz0 (And.intro hs0 hb0)))
    have HH := Lib.hid (fun k => headB_len ep s l n 0 wd lg k)
    have H2 := Lib.hid (head2 ep s l n 0 wd lg)
    clear b1 c0 c1 c2 c3 c4 c5 c6 hi0 hz0 hs0 hb0
    obtain ⟨c0, c1, c2, c3, c4, c5, c6⟩ := HK1.out.seven
    go_wp2_with (at_builtin; refine wpList_append_grows _ rfl (.tmp 33) (.tmp 34) 22 rfl 5 i0 (.int .u8 0) 1 1 Try.underlying22 HI.out.1 HI.out.2.1 HI.out.2.2.1 HI.out.2.2.2 rfl (by decide) (some ⟨w1.heap.size, 0, none⟩) 4 4 [.int .u8 76, .int .u8 79, .int .u8 65, .int .u8 77] rfl (by intro e; cases e) rfl HO.out ⟨w1.heap.size + 1, 0, none⟩ 4 4 [.int .u8 1, .int .u8 0, .int .u8 0, .int .u8 0] rfl rfl HNw.out (by intro u hu; simp only [List.mem_cons, List.not_mem_nil, or_false] at hu; rcases hu with rfl | rfl | rfl | rfl <;> rfl) (by decide) (by decide) (by decide) ?_; intro v2 w2 ho2 hg2; have R2 := Lib.hid (ref_start HK1.out HB1.out _ _ hg2 ho2); rw [← H2.out] at R2; clear ho2 hg2 c0 c1 c2 c3 c4 c5 c6 kc; obtain ⟨c0, c1, c2, c3, c4, c5, c6⟩ := R2.out.1.seven)
    refine Calls.mono (low8 ep _) ?_
    rintro e w12 ⟨A12, k12, rfl, hk12, ho12, b12⟩
    have R12 := Lib.hid (R2.out.below b12)
    have D12 := Lib.hid ho12.rd
    rw [lowN_len]
    have E12 := Lib.hid (show headB ep s l n 0 wd lg 3 = headB ep s l n 0 wd lg 2 ++ lowN (ep) 8 from headB_succ ep s l n 0 wd lg 2 _ _ rfl)
    have L12 := Lib.hid (show (headB ep s l n 0 wd lg 2).length + (lowN (ep) 8).length ≤ 4294967296 from by have := HH.out 2 (by decide); rw [lowN_len]; omega)
    clear hk12 ho12 b12 R2 c0 c1 c2 c3 c4 c5 c6
    go_wp2_with (at_builtin; refine wp_app one8 b8_one rfl (.tmp 36) (.tmp 39) rfl (w.heap.size + 1) v2 (headB ep s l n 0 wd lg 2) rfl R12.out.2.1 A12 8 k12 (lowN (ep) 8) rfl (lowN_len _ _).symm _ D12.out L12.out (by decide) R12.out.lt ?_; intro v3 w3 ho3 hb3 _ _; have R3 := Lib.hid (R12.out.app hb3 (E12.out.symm ▸ ho3)); clear ho3 hb3 R12 D12 E12 L12; obtain ⟨c0, c1, c2, c3, c4, c5, c6⟩ := R3.out.1.seven)
    refine Calls.mono (low4 s _ (by rfl) (by have := HX.out; omega) _) ?_
    rintro e w13 ⟨A13, k13, rfl, hk13, ho13, b13⟩
    have R13 := Lib.hid (R3.out.below b13)
    have D13 := Lib.hid ho13.rd
    rw [lowN_len]
    have E13 := Lib.hid (show headB ep s l n 0 wd lg 4 = headB ep s l n 0 wd lg 3 ++ lowN (BitVec.ofNat 64 s) 4 from headB_succ ep s l n 0 wd lg 3 _ _ rfl)
    have L13 := Lib.hid (show (headB ep s l n 0 wd lg 3).length + (lowN (BitVec.ofNat 64 s) 4).length ≤ 4294967296 from by have := HH.out 3 (by decide); rw [lowN_len]; omega)
    clear hk13 ho13 b13 R3 c0 c1 c2 c3 c4 c5 c6
    go_wp2_with (at_builtin; refine wp_app one8 b8_one rfl (.tmp 41) (.tmp 46) rfl (w.heap.size + 1) v3 (headB ep s l n 0 wd lg 3) rfl R13.out.2.1 A13 4 k13 (lowN (BitVec.ofNat 64 s) 4) rfl (lowN_len _ _).symm _ D13.out L13.out (by decide) R13.out.lt ?_; intro v4 w4 ho4 hb4 _ _; have R4 := Lib.hid (R13.out.app hb4 (E13.out.symm ▸ ho4)); clear ho4 hb4 R13 D13 E13 L13; obtain ⟨c0, c1, c2, c3, c4, c5, c6⟩ := R4.out.1.seven)
    refine Calls.mono (low4 l _ (by rfl) (by have := HX.out; omega) _) ?_
    rintro e w14 ⟨A14, k14, rfl, hk14, ho14, b14⟩
    have R14 := Lib.hid (R4.out.below b14)
    have D14 := Lib.hid ho14.rd
    rw [lowN_len]
    have E14 := Lib.hid (show headB ep s l n 0 wd lg 5 = headB ep s l n 0 wd lg 4 ++ lowN (BitVec.ofNat 64 l) 4 from headB_succ ep s l n 0 wd lg 4 _ _ rfl)
    have L14 := Lib.hid (show (headB ep s l n 0 wd lg 4).length + (lowN (BitVec.ofNat 64 l) 4).length ≤ 4294967296 from by have := HH.out 4 (by decide); rw [lowN_len]; omega)
    clear hk14 ho14 b14 R4 c0 c1 c2 c3 c4 c5 c6
    go_wp2_with (at_builtin; refine wp_app one8 b8_one rfl (.tmp 48) (.tmp 53) rfl (w.heap.size + 1) v4 (headB ep s l n 0 wd lg 4) rfl R14.out.2.1 A14 4 k14 (lowN (BitVec.ofNat 64 l) 4) rfl (lowN_len _ _).symm _ D14.out L14.out (by decide) R14.out.lt ?_; intro v5 w5 ho5 hb5 _ _; have R5 := Lib.hid (R14.out.app hb5 (E14.out.symm ▸ ho5)); clear ho5 hb5 R14 D14 E14 L14; obtain ⟨c0, c1, c2, c3, c4, c5, c6⟩ := R5.out.1.seven)
    refine Calls.mono (low4 n _ (by rfl) (by have := HX.out; omega) _) ?_
    rintro e w15 ⟨A15, k15, rfl, hk15, ho15, b15⟩
    have R15 := Lib.hid (R5.out.below b15)
    have D15 := Lib.hid ho15.rd
    rw [lowN_len]
    have E15 := Lib.hid (show headB ep s l n 0 wd lg 6 = headB ep s l n 0 wd lg 5 ++ lowN (BitVec.ofNat 64 n) 4 from headB_succ ep s l n 0 wd lg 5 _ _ rfl)
    have L15 := Lib.hid (show (headB ep s l n 0 wd lg 5).length + (lowN (BitVec.ofNat 64 n) 4).length ≤ 4294967296 from by have := HH.out 5 (by decide); rw [lowN_len]; omega)
    clear hk15 ho15 b15 R5 c0 c1 c2 c3 c4 c5 c6
    go_wp2_with (at_builtin; refine wp_app one8 b8_one rfl (.tmp 55) (.tmp 60) rfl (w.heap.size + 1) v5 (headB ep s l n 0 wd lg 5) rfl R15.out.2.1 A15 4 k15 (lowN (BitVec.ofNat 64 n) 4) rfl (lowN_len _ _).symm _ D15.out L15.out (by decide) R15.out.lt ?_; intro v6 w6 ho6 hb6 _ _; have R6 := Lib.hid (R15.out.app hb6 (E15.out.symm ▸ ho6)); clear ho6 hb6 R15 D15 E15 L15; obtain ⟨c0, c1, c2, c3, c4, c5, c6⟩ := R6.out.1.seven)
    refine Calls.mono (low4 0 _ (by rfl) (by have := HX.out; omega) _) ?_
    rintro e w16 ⟨A16, k16, rfl, hk16, ho16, b16⟩
    have R16 := Lib.hid (R6.out.below b16)
    have D16 := Lib.hid ho16.rd
    rw [lowN_len]
    have E16 := Lib.hid (show headB ep s l n 0 wd lg 7 = headB ep s l n 0 wd lg 6 ++ lowN (BitVec.ofNat 64 0) 4 from headB_succ ep s l n 0 wd lg 6 _ _ rfl)
    have L16 := Lib.hid (show (headB ep s l n 0 wd lg 6).length + (lowN (BitVec.ofNat 64 0) 4).length ≤ 4294967296 from by have := HH.out 6 (by decide); rw [lowN_len]; omega)
    clear hk16 ho16 b16 R6 c0 c1 c2 c3 c4 c5 c6
    go_wp2_with (at_builtin; refine wp_app one8 b8_one rfl (.tmp 62) (.tmp 66) rfl (w.heap.size + 1) v6 (headB ep s l n 0 wd lg 6) rfl R16.out.2.1 A16 4 k16 (lowN (BitVec.ofNat 64 0) 4) rfl (lowN_len _ _).symm _ D16.out L16.out (by decide) R16.out.lt ?_; intro v7 w7 ho7 hb7 _ _; have R7 := Lib.hid (R16.out.app hb7 (E16.out.symm ▸ ho7)); clear ho7 hb7 R16 D16 E16 L16; obtain ⟨c0, c1, c2, c3, c4, c5, c6⟩ := R7.out.1.seven)
    refine Calls.mono (low4 wd _ (by rfl) (by have := HX.out; omega) _) ?_
    rintro e w17 ⟨A17, k17, rfl, hk17, ho17, b17⟩
    have R17 := Lib.hid (R7.out.below b17)
    have D17 := Lib.hid ho17.rd
    rw [lowN_len]
    have E17 := Lib.hid (show headB ep s l n 0 wd lg 8 = headB ep s l n 0 wd lg 7 ++ lowN (BitVec.ofNat 64 wd) 4 from headB_succ ep s l n 0 wd lg 7 _ _ rfl)
    have L17 := Lib.hid (show (headB ep s l n 0 wd lg 7).length + (lowN (BitVec.ofNat 64 wd) 4).length ≤ 4294967296 from by have := HH.out 7 (by decide); rw [lowN_len]; omega)
    clear hk17 ho17 b17 R7 c0 c1 c2 c3 c4 c5 c6
    go_wp2_with (at_builtin; refine wp_app one8 b8_one rfl (.tmp 68) (.tmp 72) rfl (w.heap.size + 1) v7 (headB ep s l n 0 wd lg 7) rfl R17.out.2.1 A17 4 k17 (lowN (BitVec.ofNat 64 wd) 4) rfl (lowN_len _ _).symm _ D17.out L17.out (by decide) R17.out.lt ?_; intro v8 w8 ho8 hb8 _ _; have R8 := Lib.hid (R17.out.app hb8 (E17.out.symm ▸ ho8)); clear ho8 hb8 R17 D17 E17 L17; obtain ⟨c0, c1, c2, c3, c4, c5, c6⟩ := R8.out.1.seven)
    refine Calls.mono (low8 lg _) ?_
    rintro e w18 ⟨A18, k18, rfl, hk18, ho18, b18⟩
    have R18 := Lib.hid (R8.out.below b18)
    have D18 := Lib.hid ho18.rd
    rw [lowN_len]
    have E18 := Lib.hid (show headB ep s l n 0 wd lg 9 = headB ep s l n 0 wd lg 8 ++ lowN (lg) 8 from headB_succ ep s l n 0 wd lg 8 _ _ rfl)
    have L18 := Lib.hid (show (headB ep s l n 0 wd lg 8).length + (lowN (lg) 8).length ≤ 4294967296 from by have := HH.out 8 (by decide); rw [lowN_len]; omega)
    clear hk18 ho18 b18 R8 c0 c1 c2 c3 c4 c5 c6
    go_wp2_with (at_builtin; refine wp_app one8 b8_one rfl (.tmp 74) (.tmp 77) rfl (w.heap.size + 1) v8 (headB ep s l n 0 wd lg 8) rfl R18.out.2.1 A18 8 k18 (lowN (lg) 8) rfl (lowN_len _ _).symm _ D18.out L18.out (by decide) R18.out.lt ?_; intro v9 w9 ho9 hb9 _ _; have R9 := Lib.hid (R18.out.app hb9 (E18.out.symm ▸ ho9)); clear ho9 hb9 R18 D18 E18 L18; obtain ⟨c0, c1, c2, c3, c4, c5, c6⟩ := R9.out.1.seven)
    have HL9 := Lib.hid (headB_full ep s l n 0 wd lg)
    clear c0 c1 c2 c3 c4 c5 c6 HI HO HNw HH H2 HK1 HB1
    go_loopw [4] (fun ov wr => ∃ j : Nat, 44 + j ≤ s - 4 ∧ Hid (RefB w wr #[.int .u64 (U64 ep), .int .i64 (s : Int), .int .i64 (l : Int), .int .i64 (n : Int), .int .i64 (0 : Int), .int .i64 (wd : Int), .int .u64 (U64 lg)] ov (headB ep s l n 0 wd lg 9 ++ List.replicate j 0#8))) (fun ov _ => s - lenV ov)
    case atStart => exact ⟨0, by have := HX.out; omega, Lib.hid (by rw [List.replicate_zero, List.append_nil]; exact R9.out)⟩
    case round =>
      obtain ⟨j, hj, hR⟩ := hrel
      clear R9
      obtain ⟨A4, k4, rfl, hk4⟩ := hR.out.2.1.form
      obtain ⟨N, hN⟩ : ∃ N, N = (headB ep s l n 0 wd lg 9 ++ List.replicate j 0#8).length := ⟨_, rfl⟩
      have hN2 : N = 44 + j := by rw [hN, List.length_append, HL9.out, List.length_replicate]
      rw [← hN] at hR ⊢
      have HN := Lib.hid hN
      clear hk4 hN
      obtain ⟨c0, c1, c2, c3, c4, c5, c6⟩ := hR.out.1.seven
      have hNI : (N : Int) = 44 + (j : Int) := by omega
      have HN2 := Lib.hid hN2
      clear hN2
      by_cases hlt : 44 + j < s - 4
      · have t1 : (N : Int) < (s : Int) - 4 := by omega
        have HNI := Lib.hid hNI
        clear hNI
        have R8 := Lib.hid (hR.out.below (Gw.alloc wr (.cells #[.int .u8 0] 5)))
        have D8 := Lib.hid (show Rd b8 (wr.alloc (.cells #[.int .u8 0] 5)) (wr.alloc (.cells #[.int .u8 0] 5)).heap.size (some ⟨wr.heap.size, 0, none⟩) [0#8] from fun k hk => by
          have h0 : k = 0 := by simpa using hk
          subst h0
          exact ⟨_, rfl, by simp, new_mark wr 5 [.int .u8 0] (0, 0) wr.heap.size rfl 0 _ rfl⟩)
        have L8 := Lib.hid (show (headB ep s l n 0 wd lg 9 ++ List.replicate j 0#8).length + [0#8].length ≤ 4294967296 from by rw [← HN.out, HN2.out]; simp; have := HX.out; omega)
        go_wp2_with (at_builtin; refine wp_app one8 b8_one rfl (.tmp 86) (.tmp 87) rfl (w.heap.size + 1) (.slice A4 N k4) (headB ep s l n 0 wd lg 9 ++ List.replicate j 0#8) rfl R8.out.2.1 (some ⟨wr.heap.size, 0, none⟩) 1 1 [0#8] rfl rfl _ D8.out L8.out (by decide) R8.out.lt ?_; intro vN wN hoN hbN _ _; have RN := Lib.hid (R8.out.app hbN hoN); clear hoN hbN R8 D8 L8)
        obtain ⟨A5, k5, rfl, hk5⟩ := RN.out.2.1.form
        have hl5 : (headB ep s l n 0 wd lg 9 ++ List.replicate j 0#8 ++ [0#8]).length = N + 1 := by rw [List.length_append, ← HN.out]; rfl
        rw [hl5] at RN ⊢
        go_roundw
        case rel => exact ⟨j + 1, by omega, Lib.hid (by have h := RN.out; rw [List.append_assoc, ← List.replicate_succ'] at h; exact h)⟩
        case measure => (have h1 := HN2.out; have h2 : N < s := (by omega); simp [lenV]; try omega)
      · have hje : j = s - 4 - 44 := by omega
        have t1 : ¬ (N : Int) < (s : Int) - 4 := by omega
        have HS := Lib.hid (rseal_c (secB ep s l n 0 wd lg) A4 k4 wr (by have h := hR.out.2.1; rw [HN.out] at h; have h2 := h.rd; rw [hje] at h2; exact h2) (by unfold secB; rw [List.length_append, HL9.out, List.length_replicate]; have := HX.out; omega))
        have hls : (secB ep s l n 0 wd lg).length = N := by unfold secB; rw [← hje]; exact HN.out.symm
        rw [hls] at HS
        have HNI := Lib.hid hNI
        have HJE := Lib.hid hje
        clear hNI hje
        go_wp2_with fail
        refine Calls.mono HS.out ?_
        rintro e wz ⟨AZ, kZ, rfl, hkZ, hoZ, bZ⟩
        have HZ := Lib.hid (And.intro hkZ (And.intro hoZ (hR.out.2.2.trans (bZ.mono hR.out.2.2.size))))
        have HZB := Lib.hid hR.out.2.2.size
        clear bZ hkZ hoZ
        obtain ⟨NZ, hNZ⟩ : ∃ N, N = (sealC (secB ep s l n 0 wd lg)).length := ⟨_, rfl⟩
        rw [← hNZ] at HZ ⊢
        go_wp2_with fail
        go_ret2
        refine ⟨AZ, kZ, rfl, by have h := HZ.out.1; rw [hNZ] at h; exact h, by have h := HZ.out.2.1; rw [hNZ] at h; exact h.rd, HZ.out.2.2, fun a ha => ?_⟩
        rcases HZ.out.2.1.2 with ⟨e, _⟩ | ⟨gq, cap, cur, e, hq, _⟩
        · injection e with e1
          rw [ha] at e1
          cases e1
        · injection e with e1
          rw [ha] at e1
          injection e1 with e1
          rw [e1]
          exact Nat.le_trans HZB.out hq
  · go_enter Try.func40, Try.ntmps40
    go_wp2_with fail
    refine Calls.mono (HC.out _) ?_
    rintro e w1 ⟨rfl, b1⟩
    have HB1 := Lib.hid (HB.out.trans (b1.mono HB.out.size))
    have HK1 := Lib.hid (HK.out.below b1 HK.out.lt)
    have kc := Joins.run_convert_bytes_const_at (P := Try.prog) w1 22 5 #[.int .u8 76, .int .u8 79, .int .u8 65, .int .u8 77] 4 4 w1.heap.size rfl Try.underlying22 Try.underlying5
    have HO := Lib.hid (new_behind w1 5 5 [.int .u8 76, .int .u8 79, .int .u8 65, .int .u8 77] (4, 5) #[.int .u8 1, .int .u8 0, .int .u8 0, .int .u8 0] w1.heap.size rfl)
    have HNw := Lib.hid (new_mark (w1.alloc (.cells #[.int .u8 76, .int .u8 79, .int .u8 65, .int .u8 77] 5 (4, 5))) 5 [.int .u8 1, .int .u8 0, .int .u8 0, .int .u8 0] (0, 0) (w1.heap.size + 1) (by simp))
    obtain ⟨i0, hi0, hz0, hs0, hb0⟩ := one8.info
    have HI := Lib.hid (And.intro hi0 (And.intro hz0 (And.intro hs0 hb0)))
    have HH := Lib.hid (fun k => headB_len ep s l n 1 wd lg k)
    have H2 := Lib.hid (head2 ep s l n 1 wd lg)
    clear b1 c0 c1 c2 c3 c4 c5 c6 hi0 hz0 hs0 hb0
    obtain ⟨c0, c1, c2, c3, c4, c5, c6⟩ := HK1.out.seven
    go_wp2_with (at_builtin; refine wpList_append_grows _ rfl (.tmp 33) (.tmp 34) 22 rfl 5 i0 (.int .u8 0) 1 1 Try.underlying22 HI.out.1 HI.out.2.1 HI.out.2.2.1 HI.out.2.2.2 rfl (by decide) (some ⟨w1.heap.size, 0, none⟩) 4 4 [.int .u8 76, .int .u8 79, .int .u8 65, .int .u8 77] rfl (by intro e; cases e) rfl HO.out ⟨w1.heap.size + 1, 0, none⟩ 4 4 [.int .u8 1, .int .u8 0, .int .u8 0, .int .u8 0] rfl rfl HNw.out (by intro u hu; simp only [List.mem_cons, List.not_mem_nil, or_false] at hu; rcases hu with rfl | rfl | rfl | rfl <;> rfl) (by decide) (by decide) (by decide) ?_; intro v2 w2 ho2 hg2; have R2 := Lib.hid (ref_start HK1.out HB1.out _ _ hg2 ho2); rw [← H2.out] at R2; clear ho2 hg2 c0 c1 c2 c3 c4 c5 c6 kc; obtain ⟨c0, c1, c2, c3, c4, c5, c6⟩ := R2.out.1.seven)
    refine Calls.mono (low8 ep _) ?_
    rintro e w12 ⟨A12, k12, rfl, hk12, ho12, b12⟩
    have R12 := Lib.hid (R2.out.below b12)
    have D12 := Lib.hid ho12.rd
    rw [lowN_len]
    have E12 := Lib.hid (show headB ep s l n 1 wd lg 3 = headB ep s l n 1 wd lg 2 ++ lowN (ep) 8 from headB_succ ep s l n 1 wd lg 2 _ _ rfl)
    have L12 := Lib.hid (show (headB ep s l n 1 wd lg 2).length + (lowN (ep) 8).length ≤ 4294967296 from by have := HH.out 2 (by decide); rw [lowN_len]; omega)
    clear hk12 ho12 b12 R2 c0 c1 c2 c3 c4 c5 c6
    go_wp2_with (at_builtin; refine wp_app one8 b8_one rfl (.tmp 36) (.tmp 39) rfl (w.heap.size + 1) v2 (headB ep s l n 1 wd lg 2) rfl R12.out.2.1 A12 8 k12 (lowN (ep) 8) rfl (lowN_len _ _).symm _ D12.out L12.out (by decide) R12.out.lt ?_; intro v3 w3 ho3 hb3 _ _; have R3 := Lib.hid (R12.out.app hb3 (E12.out.symm ▸ ho3)); clear ho3 hb3 R12 D12 E12 L12; obtain ⟨c0, c1, c2, c3, c4, c5, c6⟩ := R3.out.1.seven)
    refine Calls.mono (low4 s _ (by rfl) (by have := HX.out; omega) _) ?_
    rintro e w13 ⟨A13, k13, rfl, hk13, ho13, b13⟩
    have R13 := Lib.hid (R3.out.below b13)
    have D13 := Lib.hid ho13.rd
    rw [lowN_len]
    have E13 := Lib.hid (show headB ep s l n 1 wd lg 4 = headB ep s l n 1 wd lg 3 ++ lowN (BitVec.ofNat 64 s) 4 from headB_succ ep s l n 1 wd lg 3 _ _ rfl)
    have L13 := Lib.hid (show (headB ep s l n 1 wd lg 3).length + (lowN (BitVec.ofNat 64 s) 4).length ≤ 4294967296 from by have := HH.out 3 (by decide); rw [lowN_len]; omega)
    clear hk13 ho13 b13 R3 c0 c1 c2 c3 c4 c5 c6
    go_wp2_with (at_builtin; refine wp_app one8 b8_one rfl (.tmp 41) (.tmp 46) rfl (w.heap.size + 1) v3 (headB ep s l n 1 wd lg 3) rfl R13.out.2.1 A13 4 k13 (lowN (BitVec.ofNat 64 s) 4) rfl (lowN_len _ _).symm _ D13.out L13.out (by decide) R13.out.lt ?_; intro v4 w4 ho4 hb4 _ _; have R4 := Lib.hid (R13.out.app hb4 (E13.out.symm ▸ ho4)); clear ho4 hb4 R13 D13 E13 L13; obtain ⟨c0, c1, c2, c3, c4, c5, c6⟩ := R4.out.1.seven)
    refine Calls.mono (low4 l _ (by rfl) (by have := HX.out; omega) _) ?_
    rintro e w14 ⟨A14, k14, rfl, hk14, ho14, b14⟩
    have R14 := Lib.hid (R4.out.below b14)
    have D14 := Lib.hid ho14.rd
    rw [lowN_len]
    have E14 := Lib.hid (show headB ep s l n 1 wd lg 5 = headB ep s l n 1 wd lg 4 ++ lowN (BitVec.ofNat 64 l) 4 from headB_succ ep s l n 1 wd lg 4 _ _ rfl)
    have L14 := Lib.hid (show (headB ep s l n 1 wd lg 4).length + (lowN (BitVec.ofNat 64 l) 4).length ≤ 4294967296 from by have := HH.out 4 (by decide); rw [lowN_len]; omega)
    clear hk14 ho14 b14 R4 c0 c1 c2 c3 c4 c5 c6
    go_wp2_with (at_builtin; refine wp_app one8 b8_one rfl (.tmp 48) (.tmp 53) rfl (w.heap.size + 1) v4 (headB ep s l n 1 wd lg 4) rfl R14.out.2.1 A14 4 k14 (lowN (BitVec.ofNat 64 l) 4) rfl (lowN_len _ _).symm _ D14.out L14.out (by decide) R14.out.lt ?_; intro v5 w5 ho5 hb5 _ _; have R5 := Lib.hid (R14.out.app hb5 (E14.out.symm ▸ ho5)); clear ho5 hb5 R14 D14 E14 L14; obtain ⟨c0, c1, c2, c3, c4, c5, c6⟩ := R5.out.1.seven)
    refine Calls.mono (low4 n _ (by rfl) (by have := HX.out; omega) _) ?_
    rintro e w15 ⟨A15, k15, rfl, hk15, ho15, b15⟩
    have R15 := Lib.hid (R5.out.below b15)
    have D15 := Lib.hid ho15.rd
    rw [lowN_len]
    have E15 := Lib.hid (show headB ep s l n 1 wd lg 6 = headB ep s l n 1 wd lg 5 ++ lowN (BitVec.ofNat 64 n) 4 from headB_succ ep s l n 1 wd lg 5 _ _ rfl)
    have L15 := Lib.hid (show (headB ep s l n 1 wd lg 5).length + (lowN (BitVec.ofNat 64 n) 4).length ≤ 4294967296 from by have := HH.out 5 (by decide); rw [lowN_len]; omega)
    clear hk15 ho15 b15 R5 c0 c1 c2 c3 c4 c5 c6
    go_wp2_with (at_builtin; refine wp_app one8 b8_one rfl (.tmp 55) (.tmp 60) rfl (w.heap.size + 1) v5 (headB ep s l n 1 wd lg 5) rfl R15.out.2.1 A15 4 k15 (lowN (BitVec.ofNat 64 n) 4) rfl (lowN_len _ _).symm _ D15.out L15.out (by decide) R15.out.lt ?_; intro v6 w6 ho6 hb6 _ _; have R6 := Lib.hid (R15.out.app hb6 (E15.out.symm ▸ ho6)); clear ho6 hb6 R15 D15 E15 L15; obtain ⟨c0, c1, c2, c3, c4, c5, c6⟩ := R6.out.1.seven)
    refine Calls.mono (low4 1 _ (by rfl) (by have := HX.out; omega) _) ?_
    rintro e w16 ⟨A16, k16, rfl, hk16, ho16, b16⟩
    have R16 := Lib.hid (R6.out.below b16)
    have D16 := Lib.hid ho16.rd
    rw [lowN_len]
    have E16 := Lib.hid (show headB ep s l n 1 wd lg 7 = headB ep s l n 1 wd lg 6 ++ lowN (BitVec.ofNat 64 1) 4 from headB_succ ep s l n 1 wd lg 6 _ _ rfl)
    have L16 := Lib.hid (show (headB ep s l n 1 wd lg 6).length + (lowN (BitVec.ofNat 64 1) 4).length ≤ 4294967296 from by have := HH.out 6 (by decide); rw [lowN_len]; omega)
    clear hk16 ho16 b16 R6 c0 c1 c2 c3 c4 c5 c6
    go_wp2_with (at_builtin; refine wp_app one8 b8_one rfl (.tmp 62) (.tmp 66) rfl (w.heap.size + 1) v6 (headB ep s l n 1 wd lg 6) rfl R16.out.2.1 A16 4 k16 (lowN (BitVec.ofNat 64 1) 4) rfl (lowN_len _ _).symm _ D16.out L16.out (by decide) R16.out.lt ?_; intro v7 w7 ho7 hb7 _ _; have R7 := Lib.hid (R16.out.app hb7 (E16.out.symm ▸ ho7)); clear ho7 hb7 R16 D16 E16 L16; obtain ⟨c0, c1, c2, c3, c4, c5, c6⟩ := R7.out.1.seven)
    refine Calls.mono (low4 wd _ (by rfl) (by have := HX.out; omega) _) ?_
    rintro e w17 ⟨A17, k17, rfl, hk17, ho17, b17⟩
    have R17 := Lib.hid (R7.out.below b17)
    have D17 := Lib.hid ho17.rd
    rw [lowN_len]
    have E17 := Lib.hid (show headB ep s l n 1 wd lg 8 = headB ep s l n 1 wd lg 7 ++ lowN (BitVec.ofNat 64 wd) 4 from headB_succ ep s l n 1 wd lg 7 _ _ rfl)
    have L17 := Lib.hid (show (headB ep s l n 1 wd lg 7).length + (lowN (BitVec.ofNat 64 wd) 4).length ≤ 4294967296 from by have := HH.out 7 (by decide); rw [lowN_len]; omega)
    clear hk17 ho17 b17 R7 c0 c1 c2 c3 c4 c5 c6
    go_wp2_with (at_builtin; refine wp_app one8 b8_one rfl (.tmp 68) (.tmp 72) rfl (w.heap.size + 1) v7 (headB ep s l n 1 wd lg 7) rfl R17.out.2.1 A17 4 k17 (lowN (BitVec.ofNat 64 wd) 4) rfl (lowN_len _ _).symm _ D17.out L17.out (by decide) R17.out.lt ?_; intro v8 w8 ho8 hb8 _ _; have R8 := Lib.hid (R17.out.app hb8 (E17.out.symm ▸ ho8)); clear ho8 hb8 R17 D17 E17 L17; obtain ⟨c0, c1, c2, c3, c4, c5, c6⟩ := R8.out.1.seven)
    refine Calls.mono (low8 lg _) ?_
    rintro e w18 ⟨A18, k18, rfl, hk18, ho18, b18⟩
    have R18 := Lib.hid (R8.out.below b18)
    have D18 := Lib.hid ho18.rd
    rw [lowN_len]
    have E18 := Lib.hid (show headB ep s l n 1 wd lg 9 = headB ep s l n 1 wd lg 8 ++ lowN (lg) 8 from headB_succ ep s l n 1 wd lg 8 _ _ rfl)
    have L18 := Lib.hid (show (headB ep s l n 1 wd lg 8).length + (lowN (lg) 8).length ≤ 4294967296 from by have := HH.out 8 (by decide); rw [lowN_len]; omega)
    clear hk18 ho18 b18 R8 c0 c1 c2 c3 c4 c5 c6
    go_wp2_with (at_builtin; refine wp_app one8 b8_one rfl (.tmp 74) (.tmp 77) rfl (w.heap.size + 1) v8 (headB ep s l n 1 wd lg 8) rfl R18.out.2.1 A18 8 k18 (lowN (lg) 8) rfl (lowN_len _ _).symm _ D18.out L18.out (by decide) R18.out.lt ?_; intro v9 w9 ho9 hb9 _ _; have R9 := Lib.hid (R18.out.app hb9 (E18.out.symm ▸ ho9)); clear ho9 hb9 R18 D18 E18 L18; obtain ⟨c0, c1, c2, c3, c4, c5, c6⟩ := R9.out.1.seven)
    have HL9 := Lib.hid (headB_full ep s l n 1 wd lg)
    clear c0 c1 c2 c3 c4 c5 c6 HI HO HNw HH H2 HK1 HB1
    go_loopw [4] (fun ov wr => ∃ j : Nat, 44 + j ≤ s - 4 ∧ Hid (RefB w wr #[.int .u64 (U64 ep), .int .i64 (s : Int), .int .i64 (l : Int), .int .i64 (n : Int), .int .i64 (1 : Int), .int .i64 (wd : Int), .int .u64 (U64 lg)] ov (headB ep s l n 1 wd lg 9 ++ List.replicate j 0#8))) (fun ov _ => s - lenV ov)
    case atStart => exact ⟨0, by have := HX.out; omega, Lib.hid (by rw [List.replicate_zero, List.append_nil]; exact R9.out)⟩
    case round =>
      obtain ⟨j, hj, hR⟩ := hrel
      clear R9
      obtain ⟨A4, k4, rfl, hk4⟩ := hR.out.2.1.form
      obtain ⟨N, hN⟩ : ∃ N, N = (headB ep s l n 1 wd lg 9 ++ List.replicate j 0#8).length := ⟨_, rfl⟩
      have hN2 : N = 44 + j := by rw [hN, List.length_append, HL9.out, List.length_replicate]
      rw [← hN] at hR ⊢
      have HN := Lib.hid hN
      clear hk4 hN
      obtain ⟨c0, c1, c2, c3, c4, c5, c6⟩ := hR.out.1.seven
      have hNI : (N : Int) = 44 + (j : Int) := by omega
      have HN2 := Lib.hid hN2
      clear hN2
      by_cases hlt : 44 + j < s - 4
      · have t1 : (N : Int) < (s : Int) - 4 := by omega
        have HNI := Lib.hid hNI
        clear hNI
        have R8 := Lib.hid (hR.out.below (Gw.alloc wr (.cells #[.int .u8 0] 5)))
        have D8 := Lib.hid (show Rd b8 (wr.alloc (.cells #[.int .u8 0] 5)) (wr.alloc (.cells #[.int .u8 0] 5)).heap.size (some ⟨wr.heap.size, 0, none⟩) [0#8] from fun k hk => by
          have h0 : k = 0 := by simpa using hk
          subst h0
          exact ⟨_, rfl, by simp, new_mark wr 5 [.int .u8 0] (0, 0) wr.heap.size rfl 0 _ rfl⟩)
        have L8 := Lib.hid (show (headB ep s l n 1 wd lg 9 ++ List.replicate j 0#8).length + [0#8].length ≤ 4294967296 from by rw [← HN.out, HN2.out]; simp; have := HX.out; omega)
        go_wp2_with (at_builtin; refine wp_app one8 b8_one rfl (.tmp 86) (.tmp 87) rfl (w.heap.size + 1) (.slice A4 N k4) (headB ep s l n 1 wd lg 9 ++ List.replicate j 0#8) rfl R8.out.2.1 (some ⟨wr.heap.size, 0, none⟩) 1 1 [0#8] rfl rfl _ D8.out L8.out (by decide) R8.out.lt ?_; intro vN wN hoN hbN _ _; have RN := Lib.hid (R8.out.app hbN hoN); clear hoN hbN R8 D8 L8)
        obtain ⟨A5, k5, rfl, hk5⟩ := RN.out.2.1.form
        have hl5 : (headB ep s l n 1 wd lg 9 ++ List.replicate j 0#8 ++ [0#8]).length = N + 1 := by rw [List.length_append, ← HN.out]; rfl
        rw [hl5] at RN ⊢
        go_roundw
        case rel => exact ⟨j + 1, by omega, Lib.hid (by have h := RN.out; rw [List.append_assoc, ← List.replicate_succ'] at h; exact h)⟩
        case measure => (have h1 := HN2.out; have h2 : N < s := (by omega); simp [lenV]; try omega)
      · have hje : j = s - 4 - 44 := by omega
        have t1 : ¬ (N : Int) < (s : Int) - 4 := by omega
        have HS := Lib.hid (rseal_c (secB ep s l n 1 wd lg) A4 k4 wr (by have h := hR.out.2.1; rw [HN.out] at h; have h2 := h.rd; rw [hje] at h2; exact h2) (by unfold secB; rw [List.length_append, HL9.out, List.length_replicate]; have := HX.out; omega))
        have hls : (secB ep s l n 1 wd lg).length = N := by unfold secB; rw [← hje]; exact HN.out.symm
        rw [hls] at HS
        have HNI := Lib.hid hNI
        have HJE := Lib.hid hje
        clear hNI hje
        go_wp2_with fail
        refine Calls.mono HS.out ?_
        rintro e wz ⟨AZ, kZ, rfl, hkZ, hoZ, bZ⟩
        have HZ := Lib.hid (And.intro hkZ (And.intro hoZ (hR.out.2.2.trans (bZ.mono hR.out.2.2.size))))
        have HZB := Lib.hid hR.out.2.2.size
        clear bZ hkZ hoZ
        obtain ⟨NZ, hNZ⟩ : ∃ N, N = (sealC (secB ep s l n 1 wd lg)).length := ⟨_, rfl⟩
        rw [← hNZ] at HZ ⊢
        go_wp2_with fail
        go_ret2
        refine ⟨AZ, kZ, rfl, by have h := HZ.out.1; rw [hNZ] at h; exact h, by have h := HZ.out.2.1; rw [hNZ] at h; exact h.rd, HZ.out.2.2, fun a ha => ?_⟩
        rcases HZ.out.2.1.2 with ⟨e, _⟩ | ⟨gq, cap, cur, e, hq, _⟩
        · injection e with e1
          rw [ha] at e1
          cases e1
        · injection e with e1
          rw [ha] at e1
          injection e1 with e1
          rw [e1]
          exact Nat.le_trans HZB.out hq
end Go.Proofs.Ytjcpbhjmmnpjnaa
/- What turns one block alone. No conditions. -/
namespace Go.Proofs.Ytjcpbhjmmnpjnaa
set_option linter.unusedVariables false
set_option linter.unusedSimpArgs false
open Go.RowKit
/-- Of what was there block g alone may have turned. -/
structure Only (w w' : World) (g : Nat) : Prop where
  os : w'.os = w.os
  tape : w'.tape = w.tape
  output : w'.output = w.output
  size : w.heap.size ≤ w'.heap.size
  block : ∀ k, k < w.heap.size → k ≠ g → w'.heap[k]? = w.heap[k]?
theorem Only.refl (w : World) (g : Nat) : Only w w g := ⟨rfl, rfl, rfl, Nat.le_refl _, fun _ _ _ => rfl⟩
theorem Only.trans {a b c : World} {g : Nat} (h : Only a b g) (k : Only b c g) : Only a c g :=
  ⟨k.os.trans h.os, k.tape.trans h.tape, k.output.trans h.output, Nat.le_trans h.size k.size, fun i hi h1 => (k.block i (Nat.lt_of_lt_of_le hi h.size) h1).trans (h.block i hi h1)⟩
theorem Only.of {a b : World} {g : Nat} (h : Below a.heap.size a b) : Only a b g := ⟨h.os, h.tape, h.output, h.size, fun k hk _ => h.block k hk⟩
theorem Only.set (w : World) (g i : Nat) (u : Value) : Only w (w.setCell ⟨g, i, none⟩ u) g := ⟨rfl, rfl, rfl, by simp [World.setCell], fun k _ hne => Below.heap_setCell _ _ _ _ hne⟩
theorem Only.drew {a b : World} {g : Nat} (h : Only a b g) : Only a b.drew g := ⟨h.os, h.tape, h.output, h.size, h.block⟩
theorem Only.below {a b : World} {g B : Nat} (h : Only a b g) (hB : B ≤ g) (hs : g < a.heap.size) : Below B a b := ⟨h.os, h.tape, h.output, h.size, fun k hk => h.block k (by omega) (by omega)⟩
theorem Rd.only {α : Type} {f : α → Value} {w w' : World} {g : Nat} {A : Option Addr} {xs : List α} (h : Rd f w w.heap.size A xs) (hm : Only w w' g) (hap : ∀ a, A = some a → a.block ≠ g) : Rd f w' w'.heap.size A xs := fun j hj => by
  obtain ⟨ad, e, hb, hc⟩ := h j hj
  refine ⟨ad, e, Nat.lt_of_lt_of_le hb hm.size, ?_⟩
  rw [← hc]
  exact World.cell?_of_block (by rw [add_block]; exact hm.block _ hb (hap ad e))
theorem Bk.onl {w w' : World} {g d : Nat} {E : TypeId} {cs : Array Value} (h : Bk w g E cs) (ho : Only w w' d) (hne : g ≠ d) : Bk w' g E cs := (ho.block g h.lt hne).trans h
end Go.Proofs.Ytjcpbhjmmnpjnaa
