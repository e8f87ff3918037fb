/- Texts joined: RegH ImF ImG ImH DcG ImK ImL CaG. -/
import Derived.Test.YtkkjnahjmomjgaaWc11
import Derived.Test.YtkkjnahjmomjgaaHdK
import Derived.Laws.Rows
import Derived.Laws.Tables
import Derived.Test.YtkkjnahjmomjgaaGrC
import Derived.Test.YtkkjnahjmomjgaaGrE
import Derived.Test.YtkkjnahjmomjgaaMmA
import Derived.Test.YtkkjnahjmomjgaaGrG
/- Stores into boxes that a region makes: the facts, and what such a store owes. No conditions. -/
namespace Go.Proofs.Ytkkjnahjmomjgaa
set_option linter.unusedVariables false
set_option linter.unusedSimpArgs false
open Go.RowKit Go.Maps
/-- A box of n cells of type T, made since B. -/
def BoxV (T : TypeId) (n B : Nat) (v : Value) (w : World) : Prop := ∃ k cs, v = .pointer (some ⟨k, 0, none⟩) ∧ B ≤ k ∧ cs.size = n ∧ Bk w k T cs
/-- A box that holds cs. -/
def BoxC (T : TypeId) (cs : Array Value) (B : Nat) (v : Value) (w : World) : Prop := ∃ k, v = .pointer (some ⟨k, 0, none⟩) ∧ B ≤ k ∧ Bk w k T cs
/-- A store into a box of n cells of type T, made since B. -/
def StD (T : TypeId) (n B : Nat) (a b : World) : Prop := ∃ k cs cs', B ≤ k ∧ cs.size = n ∧ cs'.size = n ∧ Bk a k T cs ∧ Bk b k T cs' ∧ Kept (fun c => c = k) a b
section
variable {T T' : TypeId} {n n' B B' : Nat} {cs : Array Value} {v c : Value} {a b : World}
theorem BoxV.mono (h : BoxV T n B v a) (g : Gw a b) : BoxV T n B v b := by
  obtain ⟨k, cs, e, h1, h2, h3⟩ := h
  exact ⟨k, cs, e, h1, h2, h3.below g h3.lt⟩
theorem BoxC.mono (h : BoxC T cs B v a) (g : Gw a b) : BoxC T cs B v b := by
  obtain ⟨k, e, h1, h3⟩ := h
  exact ⟨k, e, h1, h3.below g h3.lt⟩
theorem StD.below {B0 : Nat} {w0 : World} (hB : B0 ≤ B) (h : Below B0 w0 a) (hs : B0 ≤ a.heap.size) (g : StD T n B a b) : Below B0 w0 b := by
  obtain ⟨k, _, _, h1, _, _, _, _, h2⟩ := g
  exact h.trans (h2.below hs (fun c e => by omega))
theorem IsV.st (h : IsV c v a) (_ : StD T n B a b) : IsV c v b := h
theorem bk_type {w : World} {k : Nat} {E F : TypeId} {x y : Array Value} (h1 : Bk w k E x) (h2 : Bk w k F y) : E = F ∧ x = y := by
  unfold Bk at h1 h2
  rw [h1] at h2
  injection h2 with h2
  injection h2 with h2 h3 _
  exact ⟨h3, h2⟩
theorem BoxV.st (h : BoxV T' n' B' v a) (g : StD T n B a b) : BoxV T' n' B' v b := by
  obtain ⟨k, x, e, h1, h2, h3⟩ := h
  obtain ⟨k', y, y', _, g2, g3, g4, g5, g6⟩ := g
  by_cases hk : k = k'
  · subst hk
    obtain ⟨e1, e2⟩ := bk_type h3 g4
    subst e1
    exact ⟨k, y', e, h1, by rw [g3, ← g2, ← e2, h2], g5⟩
  · exact ⟨k, x, e, h1, h2, g6.bk h3 hk⟩
theorem BoxC.st (hT : T' ≠ T) (h : BoxC T' cs B' v a) (g : StD T n B a b) : BoxC T' cs B' v b := by
  obtain ⟨k, e, h1, h3⟩ := h
  obtain ⟨k', y, y', _, g2, g3, g4, g5, g6⟩ := g
  refine ⟨k, e, h1, g6.bk h3 fun hk => ?_⟩
  subst hk
  exact hT (bk_type h3 g4).1
end
def LQ (K : Act → World → Prop) : Exit → Act → World → Prop
  | .normal, a, w => K a w
  | _, _, _ => False
section
variable {P : Program} {ops : Array Oper} {Q : Exit → Act → World → Prop} {G : World → World → Prop} {F : Nat → Value → World → Prop} {a0 : Act} {w0 : World} {src : Nat → Nat}
theorem OwesG.mk2 {i : Nat} {D : World → World → Prop} {F' : Nat → Value → World → Prop} (hs0 : src i = i) (hF' : ∀ j v w, (src j = j → F j v w) → F' j v w) (hFi : ∀ v w, F' i v w → F i v w) (h : OwesD P ops Q G D F' a0 w0 i) : OwesG P ops Q G D F src a0 w0 i := by
  intro a w hG hd hs hF hR
  refine wpOp_mono ?_ (h a w hG hd hs (fun j hj => hF' j _ _ (hF j hj)) hR)
  rintro a' w' ⟨v, e, hg, hf⟩
  exact ⟨v, e, hg, by rw [if_pos hs0]; exact hFi _ _ hf⟩
end
end Go.Proofs.Ytkkjnahjmomjgaa
/- image.Encode: the region of a Root. No conditions. -/
namespace Go.Proofs.Ytkkjnahjmomjgaa
set_option linter.unusedVariables false
set_option linter.unusedSimpArgs false
open Go.RowKit Go.Maps
set_option maxHeartbeats 4000000
set_option maxRecDepth 100000
theorem ien21 (Q : Exit → Act → World → Prop) (a0 : Act) (w : World) (g Rb i at_ : Nat) (st : ByteArray) (to : Int) (qb NN cq : Nat) (G : Nat → Prop) (K : World → Prop) (hR : Rb < w.heap.size) (hRn : ¬ G Rb) (c0 : w.cell? ⟨Rb, 0, none⟩ = some (.string st)) (c1 : w.cell? ⟨Rb, 1, none⟩ = some (.int .i64 to)) (hB : Hid (∀ W, Calls Try.prog 25 #[.int .i64 (i : Int)] W (RetP (.int .i64 (at_ : Int)) W))) (hK : ∀ a b, K a → Gw a b → K b) (hp : Hid (∀ W, Below w.heap.size w W → Calls Try.prog 29 #[.pointer (some ⟨g, 0, none⟩), .int .i64 (at_ : Int), .agg #[.string st, .int .i64 to], (.slice (some ⟨qb, 0, none⟩) NN cq)] W (fun e w2 => ∃ v, e = .returned v ∧ Kept G W w2 ∧ AndV (.int .i64 0) K v w2))) (hsz : a0.tmps.size = 84) (sl6 : a0.tmps.getD 6 undef = .pointer (some ⟨g, 0, none⟩)) (sl9 : a0.tmps.getD 9 undef = .slice (some ⟨qb, 0, none⟩) NN cq) (sl10 : a0.tmps.getD 10 undef = .int .i64 (i : Int)) (sl11 : a0.tmps.getD 11 undef = .pointer (some ⟨Rb, 0, none⟩))
    (fin : ∀ (vals : Nat → Value) (w1 : World), Kept G w w1 → (IsV (.int .i64 0)) (vals 6) w1 → (AndV (.int .i64 0) K) (vals 5) w1 → Q .normal (putO vals [some 72, some 73, some 74, some 75, some 76, some 77, some 12] 0 a0) w1) :
    (Code.region 21 (regIn Try.f10 21) true).wp Try.prog Q a0 w := by
  have hGs : ∀ (j : Nat) (v : Value) (w3 : World), (srcOf [] j = j → (([IsV (.pointer (some ⟨g, 0, none⟩)), IsV (.int .i64 (i : Int)), IsV (.int .i64 (at_ : Int)), IsV (.agg #[.string st, .int .i64 to]), IsV (.slice (some ⟨qb, 0, none⟩) NN cq), AndV (.int .i64 0) K, IsV (.int .i64 0)] : List (Value → World → Prop)).getD j fun _ _ => True) v w3) → (([IsV (.pointer (some ⟨g, 0, none⟩)), IsV (.int .i64 (i : Int)), IsV (.int .i64 (at_ : Int)), IsV (.agg #[.string st, .int .i64 to]), IsV (.slice (some ⟨qb, 0, none⟩) NN cq), AndV (.int .i64 0) K, IsV (.int .i64 0)] : List (Value → World → Prop)).getD j fun _ _ => True) v w3 := by
    intro j v w3 h
    match j, h with
    | 0, h => exact h rfl
    | 1, h => exact h rfl
    | 2, h => exact h rfl
    | 3, h => exact h rfl
    | 4, h => exact h rfl
    | 5, h => exact h rfl
    | 6, h => exact h rfl
    | _ + 7, _ => exact trivial
  refine region_byK [IsV (.pointer (some ⟨g, 0, none⟩)),
    IsV (.int .i64 (i : Int)),
    IsV (.int .i64 (at_ : Int)),
    IsV (.agg #[.string st, .int .i64 to]),
    IsV (.slice (some ⟨qb, 0, none⟩) NN cq),
    AndV (.int .i64 0) K,
    IsV (.int .i64 0)] [(5, fun w w1 => Kept G w w1)] []
    [some 72, some 73, some 74, some 75, some 76, some 77, some 12] (fun w1 => Kept G w w1) (by kernel_rfl) (Kept.of_below (Gw.drew _) _) (fun _ _ h g => h.trans (Kept.of_below g _)) 5 (fun w1 => Below w.heap.size w w1) (Gw.drew _) (fun _ _ h g => h.trans (Below.mono g h.size)) (by intro p hp; simp only [List.mem_cons, List.not_mem_nil, or_false] at hp; subst hp; rfl) (by rw [hsz]; kernel_rfl) (by kernel_rfl) (by kernel_rfl) ?_ ?_ ?_ ?_
  · intro f hf
    simp only [List.mem_cons, List.not_mem_nil, or_false] at hf
    rcases hf with rfl | rfl | rfl | rfl | rfl | rfl | rfl <;> intro v a b h g <;> first | exact IsV.mono h | exact BoxV.mono h g | exact BoxC.mono h g | exact AndV.mono hK h g
  · intro p hp
    simp only [List.mem_cons, List.not_mem_nil, or_false] at hp
    rcases hp with rfl
    · refine ⟨fun a b h1 h2 => h1.trans h2, ?_⟩
      intro f hf
      simp only [List.eraseIdx_cons_succ, List.eraseIdx_cons_zero, List.mem_cons, List.not_mem_nil, or_false] at hf
      rcases hf with rfl | rfl | rfl | rfl | rfl | rfl <;> intro v a b h g <;> exact h
  · refine ⟨?_, ?_, ?_, ?_, ?_, ?_, ?_, trivial⟩
    · refine OwesG.mk2 (D := Gw) (F' := fun j => ([IsV (.pointer (some ⟨g, 0, none⟩)), IsV (.int .i64 (i : Int)), IsV (.int .i64 (at_ : Int)), IsV (.agg #[.string st, .int .i64 to]), IsV (.slice (some ⟨qb, 0, none⟩) NN cq), AndV (.int .i64 0) K, IsV (.int .i64 0)] : List (Value → World → Prop)).getD j fun _ _ => True) rfl hGs (fun v w h => h) ?_
      exact owes_mvD gw_self 6 (by kernel_rfl) (by kernel_rfl) (by kernel_rfl) sl6 (fun _ => rfl)
    · refine OwesG.mk2 (D := Gw) (F' := fun j => ([IsV (.pointer (some ⟨g, 0, none⟩)), IsV (.int .i64 (i : Int)), IsV (.int .i64 (at_ : Int)), IsV (.agg #[.string st, .int .i64 to]), IsV (.slice (some ⟨qb, 0, none⟩) NN cq), AndV (.int .i64 0) K, IsV (.int .i64 0)] : List (Value → World → Prop)).getD j fun _ _ => True) rfl hGs (fun v w h => h) ?_
      exact owes_mvD gw_self 10 (by kernel_rfl) (by kernel_rfl) (by kernel_rfl) sl10 (fun _ => rfl)
    · refine OwesG.mk2 (D := Gw) (F' := fun j => ([IsV (.pointer (some ⟨g, 0, none⟩)), IsV (.int .i64 (i : Int)), IsV (.int .i64 (at_ : Int)), IsV (.agg #[.string st, .int .i64 to]), IsV (.slice (some ⟨qb, 0, none⟩) NN cq), AndV (.int .i64 0) K, IsV (.int .i64 0)] : List (Value → World → Prop)).getD j fun _ _ => True) rfl hGs (fun v w h => h) ?_
      refine owes_vD (Go.Op.call { callee := Go.Callee.value (Go.Operand.func 25), args := #[Go.Operand.tmp 73], argTypes := #[3] }) 3 [1] (by kernel_rfl) (by kernel_rfl) (by kernel_rfl) rfl fun vals w1 ρ hG hF hρ hcst hfun => ?_
      have e73 : ρ (.tmp 73) = .int .i64 (i : Int) := ((hρ 73).trans (slotJ [1] (by rw [hsz]; decide) (by kernel_rfl))).trans (hF 1 (by decide))
      obtain ⟨hG, _⟩ := hG
      clear hρ hF hGs hcst sl6 sl9 sl10 sl11 fin
      exact opv_enter (by go_simp <;> rfl) (of_ret (hB.out w1))
    · refine OwesG.mk2 (D := Gw) (F' := fun j => ([IsV (.pointer (some ⟨g, 0, none⟩)), IsV (.int .i64 (i : Int)), IsV (.int .i64 (at_ : Int)), IsV (.agg #[.string st, .int .i64 to]), IsV (.slice (some ⟨qb, 0, none⟩) NN cq), AndV (.int .i64 0) K, IsV (.int .i64 0)] : List (Value → World → Prop)).getD j fun _ _ => True) rfl hGs (fun v w h => h) ?_
      refine owes_vD (Go.Op.load 56 (Go.Operand.tmp 11)) 56 [] (by kernel_rfl) (by kernel_rfl) (by kernel_rfl) rfl fun vals w1 ρ hG hF hρ hcst hfun => ?_
      have e11 : ρ (.tmp 11) = .pointer (some ⟨Rb, 0, none⟩) := ((hρ 11).trans (slotO [] (by kernel_rfl))).trans sl11
      obtain ⟨hG, _⟩ := hG
      have k0 := (hG.cell (p := ⟨Rb, 0, none⟩) hR hRn).trans c0; have k1 := (hG.cell (p := ⟨Rb, 1, none⟩) hR hRn).trans c1
      clear hρ hF hGs hcst hfun sl6 sl9 sl10 sl11 fin
      exact opv_val (by go_simp <;> rfl) ⟨gw_self _, rfl⟩
    · refine OwesG.mk2 (D := Gw) (F' := fun j => ([IsV (.pointer (some ⟨g, 0, none⟩)), IsV (.int .i64 (i : Int)), IsV (.int .i64 (at_ : Int)), IsV (.agg #[.string st, .int .i64 to]), IsV (.slice (some ⟨qb, 0, none⟩) NN cq), AndV (.int .i64 0) K, IsV (.int .i64 0)] : List (Value → World → Prop)).getD j fun _ _ => True) rfl hGs (fun v w h => h) ?_
      exact owes_mvD gw_self 9 (by kernel_rfl) (by kernel_rfl) (by kernel_rfl) sl9 (fun _ => rfl)
    · refine OwesG.mk2 (D := fun w w1 => Kept G w w1) (F' := fun j => ([IsV (.pointer (some ⟨g, 0, none⟩)), IsV (.int .i64 (i : Int)), IsV (.int .i64 (at_ : Int)), IsV (.agg #[.string st, .int .i64 to]), IsV (.slice (some ⟨qb, 0, none⟩) NN cq), AndV (.int .i64 0) K, IsV (.int .i64 0)] : List (Value → World → Prop)).getD j fun _ _ => True) rfl hGs (fun v w h => h) ?_
      refine owes_vD (Go.Op.call { callee := Go.Callee.value (Go.Operand.func 29), args := #[Go.Operand.tmp 72, Go.Operand.tmp 74, Go.Operand.tmp 75, Go.Operand.tmp 76], argTypes := #[61, 3, 56, 49] }) 34 [0, 2, 3, 4] (by kernel_rfl) (by kernel_rfl) (by kernel_rfl) rfl fun vals w1 ρ hG hF hρ hcst hfun => ?_
      have e72 : ρ (.tmp 72) = .pointer (some ⟨g, 0, none⟩) := ((hρ 72).trans (slotJ [0, 2, 3, 4] (by rw [hsz]; decide) (by kernel_rfl))).trans (hF 0 (by decide))
      have e74 : ρ (.tmp 74) = .int .i64 (at_ : Int) := ((hρ 74).trans (slotJ [0, 2, 3, 4] (by rw [hsz]; decide) (by kernel_rfl))).trans (hF 2 (by decide))
      have e75 : ρ (.tmp 75) = .agg #[.string st, .int .i64 to] := ((hρ 75).trans (slotJ [0, 2, 3, 4] (by rw [hsz]; decide) (by kernel_rfl))).trans (hF 3 (by decide))
      have e76 : ρ (.tmp 76) = .slice (some ⟨qb, 0, none⟩) NN cq := ((hρ 76).trans (slotJ [0, 2, 3, 4] (by rw [hsz]; decide) (by kernel_rfl))).trans (hF 4 (by decide))
      obtain ⟨hG, hPre⟩ := hG; have hPre : Below w.heap.size w w1 := hPre
      clear hρ hF hGs hcst sl6 sl9 sl10 sl11 fin
      exact opv_enter (by go_simp <;> rfl) (hp.out w1 hPre)
    · refine OwesG.mk2 (D := Gw) (F' := fun j => ([IsV (.pointer (some ⟨g, 0, none⟩)), IsV (.int .i64 (i : Int)), IsV (.int .i64 (at_ : Int)), IsV (.agg #[.string st, .int .i64 to]), IsV (.slice (some ⟨qb, 0, none⟩) NN cq), AndV (.int .i64 0) K, IsV (.int .i64 0)] : List (Value → World → Prop)).getD j fun _ _ => True) rfl hGs (fun v w h => h) ?_
      exact owes_mvjD gw_self 5 77 (by kernel_rfl) (by kernel_rfl) (by kernel_rfl) (by kernel_rfl) (by rw [hsz]; decide) (fun v w h => h.1)
  · intro vals w1 hG hF
    exact fin vals w1 hG (hF 6 (by decide +kernel)) (hF 5 (by decide +kernel))
end Go.Proofs.Ytkkjnahjmomjgaa
/- image.Encode of any graph: its words, or why not. Conditions: lengths. -/
namespace Go.Proofs.Ytkkjnahjmomjgaa
set_option linter.unusedVariables false
set_option linter.unusedSimpArgs false
open Go.RowKit Go.Maps
set_option maxHeartbeats 8000000
set_option maxRecDepth 100000
theorem roots_all (pl : List Nat) (ns : List Nv) (rs : List Rv) (need : Nat) (h : need = endL ns (2 + 5 * rs.length)) (hp : pl = placeL ns (2 + 5 * rs.length)) : rootsW pl (frontW rs.length need) rs rs.length rs.length (ns.flatMap (nodeW pl)) = encW ns rs := by
  unfold rootsW encW
  rw [List.take_length, Nat.sub_self, h, hp]
  simp
theorem rootsW_len (pl : List Nat) (F : List (BitVec 64)) (rs : List Rv) (j : Nat) (C : List (BitVec 64)) (h32 : ∀ r ∈ rs, r.s.size ≤ 32) (hF : F.length = 2) (hj : j ≤ rs.length) : (rootsW pl F rs j rs.length C).length = 2 + 5 * rs.length + C.length := by
  unfold rootsW
  rw [List.length_append, List.length_append, List.length_append, List.length_replicate, roots_len _ _ (fun r hr => h32 r (List.mem_of_mem_take hr)), List.length_take, hF]
  omega
theorem roots_none (pl : List Nat) (rs : List Rv) (x y : BitVec 64) (C : List (BitVec 64)) : ((List.replicate (2 + 5 * rs.length) 0#64 ++ C).set 0 x).set 1 y = rootsW pl [x, y] rs 0 rs.length C := by
  unfold rootsW
  rw [List.take_zero, Nat.sub_zero, Nat.add_comm 2, List.replicate_succ, List.replicate_succ]
  rfl
theorem with_front (R t : Nat) (hR : R ≤ 64) (ht : t ≤ 8192) : withB (BitVec.ofNat 64 R) 16 32 (BitVec.ofNat 64 t) = BitVec.ofNat 64 (R + t * 65536) := by
  unfold withB
  rw [if_pos (by decide)]
  apply BitVec.eq_of_toNat_eq
  have hl : (lowB 32).toNat = 4294967295 := by decide +kernel
  have h1 : BitVec.ofNat 64 R &&& ~~~(lowB 32 <<< (16 : Int).toNat) = BitVec.ofNat 64 R := by
    apply BitVec.eq_of_getLsbD_eq
    intro i hi
    rw [BitVec.getLsbD_and, BitVec.getLsbD_not]
    by_cases h : i < 16
    · have e : (lowB 32 <<< (16 : Int).toNat).getLsbD i = false := by
        rw [BitVec.getLsbD_shiftLeft]
        have : i < (16 : Int).toNat := h
        simp [this]
        intro _ h2
        omega
      rw [e]
      simp [hi]
    · have e : (BitVec.ofNat 64 R).getLsbD i = false := by
        rw [BitVec.getLsbD_ofNat]
        have : R < 2 ^ i := Nat.lt_of_lt_of_le (show R < 2 ^ 16 by omega) (Nat.pow_le_pow_right (by decide) (by omega))
        simp [Nat.testBit_lt_two_pow this]
      rw [e]
      rfl
  have h2 : (BitVec.ofNat 64 t &&& lowB 32) = BitVec.ofNat 64 t := by
    apply BitVec.eq_of_toNat_eq
    rw [BitVec.toNat_and, hl, BitVec.toNat_ofNat, Nat.mod_eq_of_lt (by omega), show 4294967295 = 2 ^ 32 - 1 from rfl, Nat.and_two_pow_sub_one_eq_mod, Nat.mod_eq_of_lt (by omega)]
  rw [h1, h2, BitVec.toNat_or, BitVec.toNat_shiftLeft, BitVec.toNat_ofNat, BitVec.toNat_ofNat, BitVec.toNat_ofNat, Nat.mod_eq_of_lt (show R < 2 ^ 64 by omega), Nat.mod_eq_of_lt (show t < 2 ^ 64 by omega), Nat.mod_eq_of_lt (show R + t * 65536 < 2 ^ 64 by omega)]
  show R ||| (t <<< 16 % 2 ^ 64) = R + t * 65536
  rw [Nat.shiftLeft_eq, Nat.mod_eq_of_lt (by omega), Nat.or_comm, Nat.mul_comm t, ← Nat.two_pow_add_eq_or_of_lt (i := 16) (by omega) t]
  omega
theorem iencode_c (w : World) (g : Gv) (hg : g.At w w.heap.size) (hs : g.Small) : Calls Try.prog 10 #[g.v] w (EncX g w) := by
  have HCk := Lib.hid (fun W (b : Below w.heap.size w W) => check_c W g (hg.up b) hs)
  have HNd0 := fun W (b : Below w.heap.size w W) => ineed_c W g (hg.up b) hs
  obtain ⟨E, hE⟩ : ∃ E, E = EncX g w := ⟨_, rfl⟩
  have HE := Lib.hid hE
  have HG := Lib.hid (And.intro hg hs)
  obtain ⟨er, her⟩ : ∃ er, er = ckG g := ⟨_, rfl⟩
  have HEr := Lib.hid her
  rw [← her] at HCk
  obtain ⟨need, hnd⟩ : ∃ nd, nd = endL g.n (2 + 5 * g.r.length) := ⟨_, rfl⟩
  have HNd := Lib.hid (fun (h0 : ckG g = 0) W (b : Below w.heap.size w W) => show Calls Try.prog 14 #[g.v] W (RetP (.int .i64 (need : Int)) W) from by
    have h1 := wordsL_end g.n (fun x hx => ((ckG_ok h0).1 x hx).2)
    have h2 := HNd0 W b
    rw [h1, show ((2 + 5 * g.r.length : Nat) : Int) + (endL g.n 0 : Int) = (need : Int) from by rw [hnd, endL_add g.n (2 + 5 * g.r.length)]; omega] at h2
    exact h2)
  have HNn := Lib.hid hnd
  rw [← hE]
  obtain ⟨A, ca, A2, ca2, ns, rs⟩ := g
  obtain ⟨N, hN⟩ : ∃ N, N = ns.length := ⟨_, rfl⟩
  obtain ⟨M, hM⟩ : ∃ M, M = rs.length := ⟨_, rfl⟩
  have HN := Lib.hid (And.intro hN hM)
  have NI : (N : Int) ≤ 1000000 := by rw [hN]; exact Int.ofNat_le.2 hs.1
  have MI : (M : Int) ≤ 1000000 := by rw [hM]; exact Int.ofNat_le.2 hs.2.1
  unfold Gv.v Gv.vn Gv.vr at HCk HNd ⊢
  simp only at HCk HNd ⊢
  rw [← hN, ← hM] at HCk HNd ⊢
  clear hg hs hE her hnd hN hM HNd0
  go_enter Try.func10, Try.ntmps10
  go_wp2_with fail
  obtain ⟨G, hG⟩ : ∃ G, G = w.heap.size := ⟨_, rfl⟩
  obtain ⟨w1, hw1⟩ : ∃ W, W = w.alloc (.cells #[.slice A N ca, .slice A2 M ca2] 25) := ⟨_, rfl⟩
  have hbk : Bk w1 G 25 #[.slice A N ca, .slice A2 M ca2] := by rw [hw1, hG]; exact Bk.new w _ _
  have b1 : Below w.heap.size w w1 := by rw [hw1]; exact Gw.alloc w _
  rw [← hw1, ← hG]
  have H1 := Lib.hid (And.intro hbk b1)
  clear hw1 hG hbk b1
  refine Calls.mono (HCk.out w1 H1.out.2) ?_
  rintro r w2 ⟨rfl, b2⟩
  have H2 := Lib.hid (And.intro (H1.out.1.below b2 H1.out.1.lt) (H1.out.2.trans (b2.mono H1.out.2.size)))
  obtain ⟨g0, g1⟩ := H2.out.1.two
  have hGl := H2.out.1.lt
  clear b2
  by_cases he : er = 0
  · subst he
    go_wp2_with fail
    refine Calls.mono (HNd.out HEr.out.symm w2 H2.out.2) ?_
    rintro r w3 ⟨rfl, b3⟩
    have H3 := Lib.hid (And.intro (H2.out.1.below b3 H2.out.1.lt) (H2.out.2.trans (b3.mono H2.out.2.size)))
    clear b3 g0 g1 hGl
    obtain ⟨g0, g1⟩ := H3.out.1.two
    have hGl := H3.out.1.lt
    by_cases hlong : 8192 < need
    · have t1 : (8192 : Int) < (need : Int) := by omega
      have e3 : errG ⟨A, ca, A2, ca2, ns, rs⟩ = 3 := by
        unfold errG
        rw [if_pos HEr.out.symm, if_pos (by show 8192 < endL ns (2 + 5 * rs.length); have h5 : need = endL ns (2 + 5 * rs.length) := HNn.out; omega)]
      have HE3 := Lib.hid e3
      clear e3
      go_wp2_with fail
      rw [HE.out]
      exact .inl ⟨by rw [HE3.out]; decide, by rw [HE3.out]; rfl, H3.out.2⟩
    · have t1 : ¬ (8192 : Int) < (need : Int) := by omega
      have t2 : (need : Int) ≤ 8192 := by omega
      have hck := ckG_ok HEr.out.symm
      simp only at hck
      have hM64 : M ≤ 64 := by rw [HN.out.2]; exact hck.2.1
      have MJ : (M : Int) ≤ 64 := by omega
      obtain ⟨b, hb⟩ : ∃ b, b = 2 + 5 * M := ⟨_, rfl⟩
      have hneed : need = endL ns b := by rw [hb, HN.out.2]; exact HNn.out
      have hbn : b ≤ need := by rw [hneed]; exact endL_ge ns b
      have HBs := Lib.hid (fun W => ibase_c M (by omega) W)
      rw [← hb] at HBs
      have HD := Lib.hid (And.intro hck (And.intro hM64 (And.intro hb (And.intro hneed (And.intro hbn (show need ≤ 8192 by omega))))))
      have HNw := Lib.hid (new_in w3 need (by omega))
      clear hck hM64 hb hneed hbn hlong HCk HNd
      go_wp2_with fail
      refine Calls.mono HNw.out ?_
      rintro r w4 ⟨m, v, rfl, hm, b4⟩
      have H4 := Lib.hid (And.intro hm (And.intro b4 (H3.out.1.below b4 H3.out.1.lt)))
      clear hm b4 g0 g1 hGl HNw
      obtain ⟨g0, g1⟩ := H4.out.2.2.two
      have hGl := H4.out.2.2.lt
      go_wp2_with fail
      refine Calls.mono (HBs.out w4) ?_
      rintro r w5 ⟨rfl, b5⟩
      have H5 := Lib.hid (And.intro (H4.out.1.below b5) (And.intro (H4.out.2.1.trans (b5.mono H4.out.2.1.size)) (H4.out.2.2.below b5 H4.out.2.2.lt)))
      clear b5 g0 g1 hGl H4
      have HSn := Lib.hid (snew_in w5 w3.heap.size m v (List.replicate need 0#64) b need H5.out.1 HD.out.2.2.2.2.1 (by rw [List.length_replicate]; exact Nat.le_refl _) (by rw [List.length_replicate]; have := HD.out.2.2.2.2.2; omega))
      go_wp2_with fail
      refine Calls.mono HSn.out ?_
      rintro r w6 ⟨s, rfl, sp6, b6⟩
      have H6 := Lib.hid (And.intro sp6 (And.intro (H5.out.2.1.trans (b6.mono H5.out.2.1.size)) (H5.out.2.2.below b6 H5.out.2.2.lt)))
      clear sp6 b6 HSn H5
      obtain ⟨g0, g1⟩ := H6.out.2.2.two
      have hGl := H6.out.2.2.lt
      have HPn := Lib.hid (putNodes_c w6 w3.heap.size s m v ns b need ca A H6.out.1 HD.out.2.2.2.1 HD.out.2.2.2.2.2 ((HG.out.1.n.below (H3.out.2.trans (H6.out.2.1.mono H3.out.2.size))).more H3.out.2.size) HD.out.1.1)
      rw [← HN.out.1] at HPn
      go_wp2_with fail
      refine Calls.mono HPn.out ?_
      rintro r w7 ⟨pv, rfl, p7, b7⟩
      obtain ⟨S, hS⟩ : ∃ S, S = w6.heap.size := ⟨_, rfl⟩
      rw [← hS] at p7
      obtain ⟨qb, cq, eo, hqS⟩ := ow_iV_some (x := -1) (l := (placeL ns b).map (fun a : Nat => (a : Int))) p7.row
      rw [List.length_map, placeL_len] at eo
      subst eo
      have H7 := Lib.hid (And.intro p7 (And.intro (H6.out.2.1.trans b7) (H6.out.2.2.below b7 (Nat.lt_of_lt_of_le H3.out.1.lt (Nat.le_refl _)))))
      clear p7 b7 g0 g1 hGl hqS hS HPn
      obtain ⟨ws, hws⟩ : ∃ ws, ws = List.replicate b 0#64 ++ ns.flatMap (nodeW (placeL ns b)) := ⟨_, rfl⟩
      have hwl : ws.length = need := by
        rw [hws, List.length_append, List.length_replicate, nodesW_len]
        exact HD.out.2.2.2.1.symm
      rw [← hws] at H7
      have hwl2 : (ws.set 0 1296125772#64).length = need := by rw [List.length_set]; exact hwl
      have hn2 : 2 ≤ need := by have := HD.out.2.2.2.2.1; have := HD.out.2.2.1; omega
      have HSt0 := Lib.hid (fun W (mm : MemAt W w3.heap.size m v ws) => show Calls Try.prog 27 #[.pointer (some ⟨m, 0, none⟩), .int .i64 0, .int .u64 1296125772] W (fun e w' => e = .returned (.int .i64 0) ∧ MemAt w' w3.heap.size m v (ws.set 0 1296125772#64) ∧ W.grownBy w' v.ownBlock) from set_in W w3.heap.size m v ws 0 1296125772#64 (by omega) (by have := HD.out.2.2.2.2.2; omega) mm)
      obtain ⟨fr, hfr⟩ : ∃ fr, fr = BitVec.ofNat 64 (M + need * 65536) := ⟨_, rfl⟩
      have HSt1 := Lib.hid (fun W (mm : MemAt W w3.heap.size m v (ws.set 0 1296125772#64)) => show Calls Try.prog 27 #[.pointer (some ⟨m, 0, none⟩), .int .i64 1, .int .u64 (U64 fr)] W (fun e w' => e = .returned (.int .i64 0) ∧ MemAt w' w3.heap.size m v ((ws.set 0 1296125772#64).set 1 fr) ∧ W.grownBy w' v.ownBlock) from set_in W w3.heap.size m v (ws.set 0 1296125772#64) 1 fr (by omega) (by have := HD.out.2.2.2.2.2; omega) mm)
      have HWi := Lib.hid (fun W => show Ans Try.prog 28 #[.int .u64 (M : Int), .int .i64 16, .int .i64 32, .int .u64 (need : Int)] W (.int .u64 (U64 fr)) from by
        have h := with_c (BitVec.ofNat 64 M) 16 32 (BitVec.ofNat 64 need) W
        rw [with_front M need HD.out.2.1 HD.out.2.2.2.2.2, ← hfr, ofNat_U64 M (by have := HD.out.2.1; omega), ofNat_U64 need (by have := HD.out.2.2.2.2.2; omega)] at h
        exact h)
      have hro := roots_none (placeL ns b) rs 1296125772#64 fr (ns.flatMap (nodeW (placeL ns b)))
      rw [← HN.out.2, ← HD.out.2.2.1, ← hws] at hro
      have HRo := Lib.hid (And.intro hro (And.intro hfr hwl))
      clear hws hwl hwl2 hn2 hfr hro H6
      go_wp2_with fail
      refine Calls.mono (HSt0.out w7 H7.out.1.sp.mem) ?_
      rintro r w8 ⟨rfl, m8, g8⟩
      have H8 := Lib.hid (show PuAt w8 w3.heap.size s m v (ws.set 0 1296125772#64) b need need S (.slice (some ⟨qb, 0, none⟩) (ns.length + 1) cq) (plI ns b) ∧ Below w3.heap.size w3 w8 from
        ⟨H7.out.1.two (H7.out.1.sp.memTo m8 g8 List.length_set) (Two.grown g8), H7.out.2.1.trans (H7.out.1.sp.mem.own g8)⟩)
      clear m8 g8 H7 HSt0
      have hb8 := H3.out.1.below H8.out.2 H3.out.1.lt
      obtain ⟨g0, g1⟩ := hb8.two
      have hGl := hb8.lt
      clear hb8
      go_wp2_with fail
      refine Calls.mono (HWi.out w8) ?_
      rintro r w9 ⟨rfl, hb9⟩
      have H9 := Lib.hid (show PuAt w9 w3.heap.size s m v (ws.set 0 1296125772#64) b need need S (.slice (some ⟨qb, 0, none⟩) (ns.length + 1) cq) (plI ns b) ∧ Below w3.heap.size w3 w9 from
        ⟨H8.out.1.below (hb9.below _), H8.out.2.trans (hb9.below _)⟩)
      clear hb9 H8 HWi g0 g1 hGl
      go_wp2_with fail
      refine Calls.mono (HSt1.out w9 H9.out.1.sp.mem) ?_
      rintro r w10 ⟨rfl, m10, g10⟩
      have HS0 : Hid (PuAt w10 w3.heap.size s m v (rootsW (placeL ns b) (frontW M need) rs 0 M (ns.flatMap (nodeW (placeL ns b)))) b need need S (.slice (some ⟨qb, 0, none⟩) (ns.length + 1) cq) (plI ns b) ∧ Below w3.heap.size w3 w10) := Lib.hid
        ⟨H9.out.1.two (by
          have h1 := H9.out.1.sp.memTo m10 g10 List.length_set
          rw [HRo.out.1, HRo.out.2.1] at h1
          exact h1) (Two.grown g10), H9.out.2.trans (H9.out.1.sp.mem.own g10)⟩
      clear m10 g10 H9 HSt1
      have hb10 := H3.out.1.below HS0.out.2 H3.out.1.lt
      obtain ⟨g0, g1⟩ := hb10.two
      have hGl := hb10.lt
      clear hb10
      go_wp2_with fail
      clear g0 g1 hGl
      go_loopw [67] (fun x W => ∃ j : Nat, x = .int .i64 j ∧ j ≤ M ∧ Hid (PuAt W w3.heap.size s m v (rootsW (placeL ns b) (frontW M need) rs j M (ns.flatMap (nodeW (placeL ns b)))) b need need S (.slice (some ⟨qb, 0, none⟩) (ns.length + 1) cq) (plI ns b) ∧ Below w3.heap.size w3 W)) (fun x _ => M - (Go.RowKit.intOf x).toNat)
      case atStart => exact ⟨0, rfl, Nat.zero_le _, HS0⟩
      case round =>
        obtain ⟨j, rfl, hj, hS⟩ := hrel
        clear HS0
        have p0 : (0 : Int) ≤ (j : Int) := by omega
        obtain ⟨e1, e2⟩ := hS.out
        have hww : Below w.heap.size w wr := H3.out.2.trans (e2.mono H3.out.2.size)
        by_cases hlt : j < M
        · have p1 : (j : Int) < (M : Int) := by omega
          have hjl : j < rs.length := by rw [← HN.out.2]; exact hlt
          obtain ⟨x, hx⟩ : ∃ x, x = rs[j] := ⟨_, rfl⟩
          obtain ⟨ad, rfl, hc2, hc3⟩ : ∃ ad, A2 = some ad ∧ wr.cell? (ad.add (j * 2)) = some (.string x.s) ∧ wr.cell? ⟨(ad.add (j * 2)).block, (ad.add (j * 2)).off + 1, none⟩ = some (.int .i64 x.t) := by
            obtain ⟨ad, e, _, h1, h2⟩ := (HG.out.1.r.below hww) j hjl
            exact ⟨ad, e, by rw [hx]; exact h1, by rw [hx]; exact h2⟩
          obtain ⟨x1, x2⟩ := HD.out.1.2.2 x (by rw [hx]; exact List.getElem_mem hjl)
          obtain ⟨a, ha⟩ : ∃ a, a = 2 + 5 * j := ⟨_, rfl⟩
          have hlen := rootsW_len (placeL ns b) (frontW M need) rs j (ns.flatMap (nodeW (placeL ns b))) (fun r hr => (goodS_size (HD.out.1.2.2 r hr).1).2) rfl (by omega)
          have hnl := nodesW_len (placeL ns b) ns b
          have hln : (rootsW (placeL ns b) (frontW M need) rs j M (ns.flatMap (nodeW (placeL ns b)))).length = need := by
            rw [HN.out.2] at *
            rw [hlen, ← HD.out.2.2.1, hnl]
            exact HD.out.2.2.2.1.symm
          have hst := root_step (placeL ns b) (frontW M need) (ns.flatMap (nodeW (placeL ns b))) rs j a hjl (fun r hr => (goodS_size (HD.out.1.2.2 r hr).1).2) rfl ha
          rw [← HN.out.2, ← hx] at hst
          have HPr := Lib.hid (fun W (q : PuAt W w3.heap.size s m v (rootsW (placeL ns b) (frontW M need) rs j M (ns.flatMap (nodeW (placeL ns b)))) b need need S (.slice (some ⟨qb, 0, none⟩) (ns.length + 1) cq) (plI ns b)) => putRoot_c W w3.heap.size s m S b need need a b qb cq v _ ns q x x1 x2 (by have := HD.out.2.2.2.1; have := HD.out.2.2.2.2.2; omega) (by rw [hln]; have := HD.out.2.2.2.2.1; have := HD.out.2.2.1; omega) (by rw [hln]; exact HD.out.2.2.2.2.2))
          rw [hst] at HPr
          have HBj := Lib.hid (fun W => ibase_c j (by have := HD.out.2.1; omega) W)
          rw [← ha] at HBj
          obtain ⟨st, to⟩ := x
          unfold Rv.v at HPr
          simp only at hc2 hc3 HPr
          have H0 := Lib.hid (And.intro e1 e2)
          obtain ⟨NN, hNN⟩ : ∃ NN, NN = ns.length + 1 := ⟨_, rfl⟩
          rw [← hNN] at HPr H0 ⊢
          clear hx e1 e2 hS x1 x2 hlen hnl hln hst hww hj ha hjl
          go_wp2_with fail
          obtain ⟨Rb, hRb⟩ : ∃ R, R = wr.heap.size := ⟨_, rfl⟩
          obtain ⟨w12, hw12⟩ : ∃ W, W = wr.alloc (.cells #[.string st, .int .i64 to] 56) := ⟨_, rfl⟩
          have hbk : Bk w12 Rb 56 #[.string st, .int .i64 to] := by rw [hw12, hRb]; exact Bk.new wr _ _
          have b12 : Below wr.heap.size wr w12 := by rw [hw12]; exact Gw.alloc wr _
          rw [← hw12, ← hRb]
          have H12 := Lib.hid (show PuAt w12 w3.heap.size s m v (rootsW (placeL ns b) (frontW M need) rs j M (ns.flatMap (nodeW (placeL ns b)))) b need need S (.slice (some ⟨qb, 0, none⟩) NN cq) (plI ns b) ∧ Below w3.heap.size w3 w12 from ⟨H0.out.1.below b12, H0.out.2.trans (b12.mono H0.out.1.sp.mem.le)⟩)
          have hRn : ¬ (Rb = s ∨ some Rb = v.ownBlock) := by
            rintro (h | h)
            · have h1 := H0.out.1.sp.blk.lt; omega
            · have h1 := (H0.out.1.sp.mem.row.lt Rb h.symm).2; omega
          obtain ⟨c0, c1⟩ := hbk.two
          have hRl := hbk.lt
          clear hbk b12 hw12 hRb hc2 hc3
          refine ien21 _ _ _ m Rb j a st to qb NN cq (fun k => k = s ∨ some k = v.ownBlock) (fun z => PuAt z w3.heap.size s m v (rootsW (placeL ns b) (frontW M need) rs (j + 1) M (ns.flatMap (nodeW (placeL ns b)))) b need need S (.slice (some ⟨qb, 0, none⟩) NN cq) (plI ns b) ∧ Below w3.heap.size w3 z) hRl hRn c0 c1 HBj (fun _ _ h g => ⟨h.1.below g, h.2.trans (g.mono h.1.sp.mem.le)⟩) (Lib.hid (fun W b => (HPr.out W (H12.out.1.below b)).mono fun r' w' h => ⟨_, h.1, im_twokept h.2.2.2, rfl, h.2.1, (H12.out.2.trans (b.mono H12.out.1.sp.mem.le)).trans h.2.2.1⟩)) rfl ?_ ?_ ?_ ?_ ?_
          · rfl
          · rfl
          · rfl
          · rfl
          intro vals w13 hG h12 hcall
          unfold IsV at h12
          simp only [putO, Act.put, List.setIfInBounds_toArray, List.set_cons_zero, List.set_cons_succ, h12]
          have HN13 := Lib.hid hcall.2
          clear hG h12 hcall c0 c1 hRl hRn H12 H0 HPr HBj
          go_wp2_with fail
          go_roundw
          case rel => exact ⟨j + 1, by go_num, by omega, HN13⟩
          case measure => simp [Go.RowKit.intOf]; omega
        · have p1 : ¬ (j : Int) < (M : Int) := by omega
          have hjM : j = rs.length := by have := HN.out.2; omega
          have hra := roots_all (placeL ns b) ns rs need (by have h := HD.out.2.2.2.1; rw [HD.out.2.2.1, HN.out.2] at h; exact h) (by rw [HD.out.2.2.1, HN.out.2])
          rw [hjM, HN.out.2, hra] at e1
          have HWd := Lib.hid (words_c wr w3.heap.size m v (encW ns rs) e1.sp.mem (by have h1 := e1.sp.te; have h2 := hra; have := encW_len ns rs (fun r hr => (goodS_size (HD.out.1.2.2 r hr).1).2); have h5 : need = endL ns (2 + 5 * rs.length) := HNn.out; have := HD.out.2.2.2.2.2; omega))
          have HF := Lib.hid hww
          clear e1 e2 hS hj hjM hra hww
          go_wp2_with fail
          refine Calls.mono HWd.out ?_
          rintro r w14 ⟨A14, c14, rfl, hc14, ho14, b14⟩
          have H14 := Lib.hid (And.intro ho14 b14)
          clear ho14 b14 hc14
          go_wp2_with fail
          rw [HE.out]
          exact .inr ⟨HEr.out.symm, by have h5 : need = endL ns (2 + 5 * rs.length) := HNn.out; have := HD.out.2.2.2.2.2; show endL ns (2 + 5 * rs.length) ≤ 8192; omega, _, rfl, H14.out.1.mono HF.out.size, HF.out.trans (H14.out.2.mono HF.out.size)⟩
  · have e1 : (er != 0) = true := by simpa using he
    have HEn := Lib.hid he
    clear he
    have e3 : errG ⟨A, ca, A2, ca2, ns, rs⟩ = er := by
      unfold errG
      rw [if_neg (by rw [← HEr.out]; exact HEn.out), ← HEr.out]
    have HE3 := Lib.hid e3
    clear e3
    go_wp2_with fail
    rw [HE.out]
    exact .inl ⟨by rw [HE3.out]; exact HEn.out, by rw [HE3.out]; rfl, H2.out.2⟩
end Go.Proofs.Ytkkjnahjmomjgaa
/- slices.Equal at words; loamlaw23.words. Conditions: lengths. -/
namespace Go.Proofs.Ytkkjnahjmomjgaa
set_option linter.unusedVariables false
set_option linter.unusedSimpArgs false
open Go.RowKit
set_option maxHeartbeats 1000000
set_option maxRecDepth 100000
theorem equ_r (Q : Exit → Act → World → Prop) (a0 : Act) (w : World) (a b : Addr) (N c c2 i : Nat) (x y : BitVec 64) (r : Bool) (ha : a.block < w.heap.size) (hb : b.block < w.heap.size) (h1 : w.cell? (a.add i) = some (.int .u64 (U64 x))) (h2 : w.cell? (b.add i) = some (.int .u64 (U64 y))) (hr : (U64 x != U64 y) = r) (p1 : (0 : Int) ≤ (i : Int)) (p2 : (i : Int) < (N : Int)) (hsz : a0.tmps.size = 26) (sl0 : a0.tmps.getD 0 undef = .slice (some a) N c) (sl1 : a0.tmps.getD 1 undef = .slice (some b) N c2) (sl5 : a0.tmps.getD 5 undef = .int .i64 i)
    (fin : ∀ (vals : Nat → Value) (w1 : World), Below w.heap.size w w1 → (IsV (.bool r)) (vals 8) w1 → Q .normal (putD vals [16, 17, 18, 19, 20, 21, 22, 23, 24] 0 a0) w1) :
    (Code.region 6 (regIn Try.f39 6) true).wp Try.prog Q a0 w := by
  refine region_by (G := fun w w1 => Below w.heap.size w w1) [IsV (.slice (some a) N c),
    IsV (.int .i64 i),
    IsV (.pointer (some (a.add i))),
    IsV (.int .u64 (U64 x)),
    IsV (.slice (some b) N c2),
    IsV (.int .i64 i),
    IsV (.pointer (some (b.add i))),
    IsV (.int .u64 (U64 y)),
    IsV (.bool r)]
    [16, 17, 18, 19, 20, 21, 22, 23, 24] (by kernel_rfl) (Gw.drew _) Gw.trans (by rw [hsz]; kernel_rfl) (by kernel_rfl) ?_ ?_ ?_
  · intro f hf
    simp only [List.mem_cons, List.not_mem_nil, or_false] at hf
    rcases hf with rfl | rfl | rfl | rfl | rfl | rfl | rfl | rfl | rfl <;> intro v a b h g <;> first | exact IsV.mono h
  · refine ⟨?_, ?_, ?_, ?_, ?_, ?_, ?_, ?_, ?_, trivial⟩
    · exact owes_mv 0 (by kernel_rfl) (by kernel_rfl) (by kernel_rfl) sl0 (fun _ => rfl)
    · exact owes_mv 5 (by kernel_rfl) (by kernel_rfl) (by kernel_rfl) sl5 (fun _ => rfl)
    · refine owes_v (Go.Op.indexAddr 33 (Go.Operand.tmp 16) (Go.Operand.tmp 17)) 0 [0, 1] (by kernel_rfl) (by kernel_rfl) (by kernel_rfl) rfl fun vals w1 ρ hG hF hρ hcst hfun => ?_
      have e16 : ρ (.tmp 16) = .slice (some a) N c := ((hρ 16).trans (slotJ [0, 1] (by rw [hsz]; decide) (by kernel_rfl))).trans (hF 0 (by decide))
      have e17 : ρ (.tmp 17) = .int .i64 i := ((hρ 17).trans (slotJ [0, 1] (by rw [hsz]; decide) (by kernel_rfl))).trans (hF 1 (by decide))
      clear hρ hF hcst hfun sl0 sl1 sl5 fin
      exact opv_val (by go_simp <;> rfl) ⟨gw_self _, rfl⟩
    · refine owes_v (Go.Op.load 57 (Go.Operand.tmp 18)) 57 [2] (by kernel_rfl) (by kernel_rfl) (by kernel_rfl) rfl fun vals w1 ρ hG hF hρ hcst hfun => ?_
      have e18 : ρ (.tmp 18) = .pointer (some (a.add i)) := ((hρ 18).trans (slotJ [2] (by rw [hsz]; decide) (by kernel_rfl))).trans (hF 2 (by decide))
      have k := (hG.cell (p := a.add i) (by rw [add_block]; exact ha)).trans h1
      clear hρ hF hcst hfun sl0 sl1 sl5 fin
      exact opv_val (by go_simp <;> rfl) ⟨gw_self _, rfl⟩
    · exact owes_mv 1 (by kernel_rfl) (by kernel_rfl) (by kernel_rfl) sl1 (fun _ => rfl)
    · exact owes_mv 5 (by kernel_rfl) (by kernel_rfl) (by kernel_rfl) sl5 (fun _ => rfl)
    · refine owes_v (Go.Op.indexAddr 33 (Go.Operand.tmp 20) (Go.Operand.tmp 21)) 0 [4, 5] (by kernel_rfl) (by kernel_rfl) (by kernel_rfl) rfl fun vals w1 ρ hG hF hρ hcst hfun => ?_
      have e20 : ρ (.tmp 20) = .slice (some b) N c2 := ((hρ 20).trans (slotJ [4, 5] (by rw [hsz]; decide) (by kernel_rfl))).trans (hF 4 (by decide))
      have e21 : ρ (.tmp 21) = .int .i64 i := ((hρ 21).trans (slotJ [4, 5] (by rw [hsz]; decide) (by kernel_rfl))).trans (hF 5 (by decide))
      clear hρ hF hcst hfun sl0 sl1 sl5 fin
      exact opv_val (by go_simp <;> rfl) ⟨gw_self _, rfl⟩
    · refine owes_v (Go.Op.load 57 (Go.Operand.tmp 22)) 57 [6] (by kernel_rfl) (by kernel_rfl) (by kernel_rfl) rfl fun vals w1 ρ hG hF hρ hcst hfun => ?_
      have e22 : ρ (.tmp 22) = .pointer (some (b.add i)) := ((hρ 22).trans (slotJ [6] (by rw [hsz]; decide) (by kernel_rfl))).trans (hF 6 (by decide))
      have k := (hG.cell (p := b.add i) (by rw [add_block]; exact hb)).trans h2
      clear hρ hF hcst hfun sl0 sl1 sl5 fin
      exact opv_val (by go_simp <;> rfl) ⟨gw_self _, rfl⟩
    · refine owes_v (Go.Op.binOp Go.BinOp.neq 57 (Go.Operand.tmp 19) (Go.Operand.tmp 23) 57) 4 [3, 7] (by kernel_rfl) (by kernel_rfl) (by kernel_rfl) rfl fun vals w1 ρ hG hF hρ hcst hfun => ?_
      have e19 : ρ (.tmp 19) = .int .u64 (U64 x) := ((hρ 19).trans (slotJ [3, 7] (by rw [hsz]; decide) (by kernel_rfl))).trans (hF 3 (by decide))
      have e23 : ρ (.tmp 23) = .int .u64 (U64 y) := ((hρ 23).trans (slotJ [3, 7] (by rw [hsz]; decide) (by kernel_rfl))).trans (hF 7 (by decide))
      clear hρ hF hcst hfun sl0 sl1 sl5 fin
      exact opv_val (by go_simp <;> first | rfl | exact hr | rw [hr]) ⟨gw_self _, rfl⟩
  · intro vals w1 hG hF
    exact fin vals w1 hG (hF 8 (by decide +kernel))
theorem equ_c (w : World) (A A2 : Option Addr) (c c2 : Nat) (xs ys : List (BitVec 64)) (hr : Rd u64v w w.heap.size A xs) (hr2 : Rd u64v w w.heap.size A2 ys) (hl : xs.length ≤ 1000000) : Calls Try.prog 39 #[.slice A xs.length c, .slice A2 ys.length c2] w (RetP (.bool (decide (xs = ys))) w) := by
  obtain ⟨N, hN⟩ : ∃ N, N = xs.length := ⟨_, rfl⟩
  obtain ⟨M, hM⟩ : ∃ M, M = ys.length := ⟨_, rfl⟩
  have HN := Lib.hid (And.intro hN hM)
  have HR := Lib.hid hr
  have HR2 := Lib.hid hr2
  have q3 : (N : Int) ≤ 1000000 := by omega
  rw [← hN, ← hM]
  by_cases he : N = M
  · subst he
    have HNe := Lib.hid (And.intro hN hM)
    clear hN hM hr hr2 hl HN
    obtain ⟨R, hRR⟩ : ∃ R, R = decide (xs = ys) := ⟨_, rfl⟩
    have HRR := Lib.hid hRR
    rw [← hRR]
    clear hRR
    go_enter Try.func39, Try.ntmps39
    go_wp2_with fail
    go_loopw [13] (fun i wr => ∃ k : Nat, k ≤ N ∧ i = .int .i64 k ∧ Hid (xs.take k = ys.take k) ∧ Below w.heap.size w wr) (fun i _ => N - (Go.RowKit.intOf i).toNat)
    case atStart => exact ⟨0, by omega, rfl, Lib.hid rfl, Below.refl _ _⟩
    case round =>
      obtain ⟨k, hk, rfl, ht, hB⟩ := hrel
      by_cases hlt : k < N
      · have p1 : (0 : Int) ≤ (k : Int) := by omega
        have p2 : (k : Int) < (N : Int) := by omega
        have h1 : k < xs.length := by rw [← HNe.out.1]; exact hlt
        have h2 : k < ys.length := by rw [← HNe.out.2]; exact hlt
        obtain ⟨ad, rfl, hadb, hcl⟩ := (HR.out.below hB) k h1
        obtain ⟨ad2, rfl, hadb2, hcl2⟩ := (HR2.out.below hB) k h2
        obtain ⟨x, hx⟩ : ∃ y, y = xs[k] := ⟨_, rfl⟩
        obtain ⟨y, hy⟩ : ∃ y, y = ys[k] := ⟨_, rfl⟩
        rw [← hx] at hcl
        rw [← hy] at hcl2
        unfold u64v at hcl hcl2
        have hsz := hB.size
        have HS := Lib.hid (fun Q a0 r hr => equ_r Q a0 wr ad ad2 N c c2 k x y r (by omega) (by omega) hcl hcl2 hr p1 p2)
        by_cases hxy : x = y
        · have hrf : (U64 x != U64 y) = false := by rw [hxy]; simp
          have HT := Lib.hid (take_eq_succ h1 h2 ht.out (by rw [← hx, ← hy, hxy]))
          clear hx hy hadb hadb2 hcl hcl2 h1 h2 hsz hxy
          go_wp2_with fail
          refine HS.out _ _ false hrf rfl rfl rfl rfl ?_
          intro vals w4 hG h24
          unfold IsV at h24
          simp only [putD, Act.put, List.setIfInBounds_toArray, List.set_cons_zero, List.set_cons_succ, h24]
          have HB4 := Lib.hid (hB.trans (hG.mono hB.size))
          clear h24 hG HS hrf
          go_wp2_with fail
          go_roundw
          case rel => exact ⟨k + 1, by omega, by go_num, HT, HB4.out⟩
          case measure => (first | (simp [Go.RowKit.intOf]; done) | (simp [Go.RowKit.intOf]; omega))
        · have hrf : (U64 x != U64 y) = true := by rw [bne_iff_ne]; exact fun e => hxy (U64_inj e)
          have hne : R = false := by
            rw [HRR.out, decide_eq_false_iff_not]
            intro e
            subst e
            exact hxy (hx.trans hy.symm)
          have HNE := Lib.hid hne
          clear hx hy hadb hadb2 hcl hcl2 h1 h2 hsz hxy hne
          go_wp2_with fail
          refine HS.out _ _ true hrf rfl rfl rfl rfl ?_
          intro vals w4 hG h24
          unfold IsV at h24
          simp only [putD, Act.put, List.setIfInBounds_toArray, List.set_cons_zero, List.set_cons_succ, h24]
          have HB4 := Lib.hid (hB.trans (hG.mono hB.size))
          clear h24 hG HS hrf
          go_wp2_with fail
          go_ret
          rw [HNE.out]
          exact ⟨rfl, HB4.out⟩
      · have hre : R = true := by
          rw [HRR.out, decide_eq_true_iff]
          have := ht.out
          rwa [show k = xs.length by rw [← HNe.out.1]; omega, List.take_length, show xs.length = ys.length by rw [← HNe.out.1, HNe.out.2], List.take_length] at this
        have HRE := Lib.hid hre
        clear hre
        go_wp2_with fail
        go_ret
        rw [HRE.out]
        exact ⟨rfl, hB⟩
  · have hne : decide (xs = ys) = false := by
      rw [decide_eq_false_iff_not]
      intro e
      exact he (by rw [hN, hM, e])
    rw [hne]
    have t1 : ((N : Int) != (M : Int)) = true := by simp; omega
    clear hN hM hr hr2 hl he hne HN HR HR2
    go_enter Try.func39, Try.ntmps39
    go_wp2_with fail
    go_ret
    exact ⟨rfl, Below.refl _ _⟩
end Go.Proofs.Ytkkjnahjmomjgaa
/- image.Decode. Conditions: at most 8192 words. -/
namespace Go.Proofs.Ytkkjnahjmomjgaa
set_option linter.unusedVariables false
set_option linter.unusedSimpArgs false
open Go.RowKit Go.Maps
set_option maxHeartbeats 8000000
set_option maxRecDepth 100000
theorem read_same {g : Gv} {ws : List (BitVec 64)} {l : List Nat} (h1 : objF ws ws.length (ws.length + 1) (2 + 5 * nR ws) = some l) (h2 : g.n.map normN = l.map (dNode ws l)) (h3 : g.r = (List.range (nR ws)).map (dRoot ws l)) {g' : Gv} (h : ckG g' = 0) (ht : endL g'.n (2 + 5 * g'.r.length) ≤ 8192) (e : encW g'.n g'.r = ws) : g.n.map normN = g'.n.map normN ∧ g.r = g'.r := by
  obtain ⟨r1, r2, r3, r4, r5⟩ := enc_read h ht
  obtain ⟨d1, d2⟩ := dec_enc h ht
  rw [e] at r2 r4 d1 d2
  rw [r2, r4] at h1
  injection h1 with h1
  rw [← h1] at h2 h3
  rw [r2] at h3
  exact ⟨h2.trans d1, h3.trans d2⟩
theorem normN_len {x y : Nv} (h : normN x = normN y) : x.ps.length = y.ps.length ∧ x.bs.length = y.bs.length := by
  unfold normN at h
  injection h with _ _ _ _ h1 h2
  exact ⟨by rw [h1], by rw [h2]⟩
theorem read_small {g : Gv} {ws : List (BitVec 64)} {l : List Nat} {b : Nat} (h8 : ws.length ≤ 8192) (h1 : objF ws ws.length (ws.length + 1) b = some l) (h2 : g.n.map normN = l.map (dNode ws l)) (h3 : g.r.length ≤ 100000) : g.Small := by
  have hl := objF_len _ _ _ h1
  have hn : g.n.length = l.length := by
    have h := congrArg List.length h2
    rwa [List.length_map, List.length_map] at h
  refine ⟨by omega, by omega, fun x hx => ?_⟩
  have hm : normN x ∈ l.map (dNode ws l) := by rw [← h2]; exact List.mem_map_of_mem hx
  obtain ⟨a, ha, e⟩ := List.mem_map.1 hm
  obtain ⟨_, _, hg⟩ := objF_mem _ _ _ h1 a ha
  obtain ⟨_, hP, hB, _, _, _⟩ := head_of hg
  have e2 : normN x = normN (dNode ws l a) := e.symm
  obtain ⟨l1, l2⟩ := normN_len e2
  rw [l1, l2]
  unfold dNode bytesM
  simp only [List.length_map, List.length_range]
  omega
def DecW (ws : List (BitVec 64)) (w : World) (r : Ending) (w' : World) : Prop :=
  (r = .returned (.tuple #[.agg #[.slice none 0 0, .slice none 0 0], .int .i64 2]) ∧ Below w.heap.size w w' ∧ BadW ws) ∨
  (∃ g : Gv, r = .returned (.tuple #[g.v, .int .i64 0]) ∧ g.At w' w'.heap.size ∧ ckG g = 0 ∧ endL g.n (2 + 5 * g.r.length) ≤ 8192 ∧ encW g.n g.r = ws ∧ Below w.heap.size w w' ∧ NOwn w' w.heap.size g.vn g.n ∧ ROwn w' w.heap.size g.vr g.r)
theorem decode_c (w : World) (A : Option Addr) (c : Nat) (ws : List (BitVec 64)) (hr : Rd u64v w w.heap.size A ws) (h8 : ws.length ≤ 8192) :
    Calls Try.prog 16 #[.slice A ws.length c] w (DecW ws w) := by
  obtain ⟨E, hE⟩ : ∃ E, E = DecW ws w := ⟨_, rfl⟩
  rw [← hE]
  have HE := Lib.hid hE
  have HRe := Lib.hid (fun W (b : Below w.heap.size w W) => read_c W A c ws ((hr.below b).more b.size) h8)
  have HX := Lib.hid (And.intro hr h8)
  obtain ⟨n, hn⟩ : ∃ n, n = ws.length := ⟨_, rfl⟩
  rw [← hn] at HRe ⊢
  have HN := Lib.hid hn
  clear hE hr h8 hn
  go_enter Try.func16, Try.ntmps16
  go_wp2_with fail
  obtain ⟨Rb, hRb⟩ : ∃ R, R = w.heap.size := ⟨_, rfl⟩
  obtain ⟨w1, hw1⟩ : ∃ W, W = w.alloc (.cells #[.slice none 0 0, .slice none 0 0] 25) := ⟨_, rfl⟩
  have hbk : Bk w1 Rb 25 #[.slice none 0 0, .slice none 0 0] := by rw [hw1, hRb]; exact Bk.new w _ _
  have b1 : Below w.heap.size w w1 := by rw [hw1]; exact Gw.alloc w _
  rw [← hw1, ← hRb]
  have HFr := Lib.hid (Nat.le_of_eq hRb.symm)
  have H1 := Lib.hid (And.intro hbk b1)
  clear hw1 hRb hbk b1
  refine Calls.mono (HRe.out w1 H1.out.2) ?_
  rintro r w2 (⟨er, her, rfl, b2, hbad⟩ | ⟨g, l, rfl, hgat, ho, hgn, hgr, hbl, b2, hno, hro⟩)
  · have H2 := Lib.hid (show Bk w2 Rb 25 #[.slice none 0 0, .slice none 0 0] ∧ Below w.heap.size w w2 from ⟨H1.out.1.below b2 H1.out.1.lt, H1.out.2.trans (b2.mono H1.out.2.size)⟩)
    have HBad := Lib.hid hbad
    have e1 : (er != 0) = true := by simpa using her
    clear b2 H1 HRe her hbad
    obtain ⟨q0, q1⟩ := H2.out.1.two
    have hRl := H2.out.1.lt
    have hfr0 := H2.out.1.free 0
    have hfr1 := H2.out.1.free 1
    go_wp2_with fail
    obtain ⟨V, hV⟩ : ∃ V, V = (((w2.setCell ⟨Rb, 0, none⟩ (.slice none 0 0)).setCell ⟨Rb, 1, none⟩ (.slice none 0 0)).alloc (.cells #[.slice none 0 0, .slice none 0 0] 25)) := ⟨_, rfl⟩
    have kR : Bk V Rb 25 #[.slice none 0 0, .slice none 0 0] := by rw [hV]; exact (two_set H2.out.1).alloc _
    have kB : Below w.heap.size w V := by rw [hV]; have kB0 := two_below (a' := .slice none 0 0) (b' := .slice none 0 0) H2.out.2 HFr.out; exact kB0.alloc kB0.size _
    have hl := run_loadVar_row (P := Try.prog) V Rb 25 25 #[.slice none 0 0, .slice none 0 0] (0, 0) _ kR Try.underlying25 rfl (by kernel_rfl)
    rw [← hV]
    clear hV q0 q1 hRl hfr0 hfr1
    refine bodyPost_ret (res2 (p := 2) (u := 3) (by kernel_rfl) hl rfl rfl) rfl ?_
    rw [HE.out]
    exact .inl ⟨rfl, kB, HBad.out⟩
  · have hsm : g.Small := read_small HX.out.2 ho hgn (by rw [hgr, List.length_map, List.length_range]; have := HX.out.2; omega)
    have H2 := Lib.hid (show Bk w2 Rb 25 #[.slice none 0 0, .slice none 0 0] ∧ Below w.heap.size w w2 from ⟨H1.out.1.below b2 H1.out.1.lt, H1.out.2.trans (b2.mono H1.out.2.size)⟩)
    have HG := Lib.hid (And.intro hgat (And.intro ho (And.intro hgn (And.intro hgr hsm))))
    have HOw := Lib.hid (show NOwn w2 w1.heap.size g.vn g.n ∧ ROwn w2 w1.heap.size g.vr g.r ∧ Rb < w1.heap.size ∧ w.heap.size ≤ w1.heap.size from ⟨hno, hro, H1.out.1.lt, H1.out.2.size⟩)
    have HEn := Lib.hid (fun W (b : Below w2.heap.size w2 W) => iencode_c W g (hgat.up b) hsm)
    clear b2 H1 HRe hgat ho hgn hgr hbl hsm hno hro
    obtain ⟨gA, gc, gA2, gc2, gns, grs⟩ := g
    obtain ⟨gN, hgN⟩ : ∃ z, z = gns.length := ⟨_, rfl⟩
    obtain ⟨gM, hgM⟩ : ∃ z, z = grs.length := ⟨_, rfl⟩
    have HGN := Lib.hid (And.intro hgN hgM)
    unfold Gv.v Gv.vn Gv.vr at HEn ⊢
    simp only at HEn ⊢
    rw [← hgN, ← hgM] at HEn ⊢
    clear hgN hgM
    go_wp2_with fail
    obtain ⟨Gb, hGb⟩ : ∃ G, G = w2.heap.size := ⟨_, rfl⟩
    obtain ⟨w3, hw3⟩ : ∃ W, W = w2.alloc (.cells #[.slice gA gN gc, .slice gA2 gM gc2] 25) := ⟨_, rfl⟩
    have hbk : Bk w3 Gb 25 #[.slice gA gN gc, .slice gA2 gM gc2] := by rw [hw3, hGb]; exact Bk.new w2 _ _
    have b3 : Below w2.heap.size w2 w3 := by rw [hw3]; exact Gw.alloc w2 _
    rw [← hw3, ← hGb]
    have H3 := Lib.hid (show Bk w3 Gb 25 #[.slice gA gN gc, .slice gA2 gM gc2] ∧ Bk w3 Rb 25 #[.slice none 0 0, .slice none 0 0] ∧ Below w.heap.size w w3 ∧ Below w2.heap.size w2 w3 ∧ Rb ≠ Gb from
      ⟨hbk, H2.out.1.below b3 H2.out.1.lt, H2.out.2.trans (b3.mono H2.out.2.size), b3, by have := H2.out.1.lt; omega⟩)
    clear hw3 hGb hbk b3
    refine Calls.mono (HEn.out w3 H3.out.2.2.2.1) ?_
    rintro r w4 (⟨hne, rfl, b4⟩ | ⟨hck, hend, v, rfl, how, b4⟩)
    · have H4 := Lib.hid (show Bk w4 Rb 25 #[.slice none 0 0, .slice none 0 0] ∧ Below w.heap.size w w4 from ⟨H3.out.2.1.below b4 H3.out.2.1.lt, H3.out.2.2.1.trans (b4.mono H3.out.2.2.1.size)⟩)
      have HBad := Lib.hid (show BadW ws from fun g' k1 k2 e => by
        obtain ⟨s1, s2⟩ := read_same (g := ⟨gA, gc, gA2, gc2, gns, grs⟩) HG.out.2.1 HG.out.2.2.1 HG.out.2.2.2.1 k1 k2 e
        obtain ⟨_, s3, s4⟩ := enc_same (g := ⟨gA, gc, gA2, gc2, gns, grs⟩) s1 s2
        apply hne
        unfold errG
        rw [s3, s4, if_pos k1, if_neg (by omega)])
      obtain ⟨er, her⟩ : ∃ er, er = errG ⟨gA, gc, gA2, gc2, gns, grs⟩ := ⟨_, rfl⟩
      rw [← her] at hne ⊢
      have e1 : (er != 0) = true := by simpa using hne
      clear b4 H3 HEn hne her
      obtain ⟨q0, q1⟩ := H4.out.1.two
      have hRl := H4.out.1.lt
      have hfr0 := H4.out.1.free 0
      have hfr1 := H4.out.1.free 1
      go_wp2_with fail
      obtain ⟨V, hV⟩ : ∃ V, V = ((w4.setCell ⟨Rb, 0, none⟩ (.slice none 0 0)).setCell ⟨Rb, 1, none⟩ (.slice none 0 0)) := ⟨_, rfl⟩
      have kR : Bk V Rb 25 #[.slice none 0 0, .slice none 0 0] := by rw [hV]; exact two_set H4.out.1
      have kB : Below w.heap.size w V := by rw [hV]; exact two_below H4.out.2 HFr.out
      have hl := run_loadVar_row (P := Try.prog) V Rb 25 25 #[.slice none 0 0, .slice none 0 0] (0, 0) _ kR Try.underlying25 rfl (by kernel_rfl)
      rw [← hV]
      clear hV q0 q1 hRl hfr0 hfr1
      refine bodyPost_ret (res2 (p := 2) (u := 3) (by kernel_rfl) hl rfl rfl) rfl ?_
      rw [HE.out]
      exact .inl ⟨rfl, kB, HBad.out⟩
    · obtain ⟨vA, vc, ev, _⟩ := how.form
      obtain ⟨vn, hvn⟩ : ∃ z, z = (encW gns grs).length := ⟨_, rfl⟩
      simp only at ev hck hend
      rw [ev] at how
      have HEq := Lib.hid (fun W (b : Below w4.heap.size w4 W) => equ_c W vA A vc c (encW gns grs) ws ((how.rd.below b).more b.size) (((HX.out.1.below (H3.out.2.2.1.trans (b4.mono H3.out.2.2.1.size))).more (Nat.le_trans H3.out.2.2.1.size b4.size)).below b |>.more b.size) (by
        have hl := encW_len gns grs (fun r hr => (goodS_size ((ckG_ok hck).2.2 r hr).1).2)
        omega))
      rw [← hvn] at ev
      rw [← hvn, ← HN.out] at HEq
      subst ev
      have H4 := Lib.hid (show Bk w4 Rb 25 #[.slice none 0 0, .slice none 0 0] ∧ Below w.heap.size w w4 ∧ Bk w4 Gb 25 #[.slice gA gN gc, .slice gA2 gM gc2] ∧ Below w2.heap.size w2 w4 from ⟨H3.out.2.1.below b4 H3.out.2.1.lt, H3.out.2.2.1.trans (b4.mono H3.out.2.2.1.size), H3.out.1.below b4 H3.out.1.lt, H3.out.2.2.2.1.trans (b4.mono H3.out.2.2.2.1.size)⟩)
      have HCk := Lib.hid (And.intro hck hend)
      clear how b4 HEn hvn hck hend
      by_cases he : encW gns grs = ws
      · have HEq1 := Lib.hid (fun W (b : Below w4.heap.size w4 W) => show Calls Try.prog 39 #[.slice vA vn vc, .slice A n c] W (RetP (.bool true) W) from by have h := HEq.out W b; rw [decide_eq_true he] at h; exact h)
        have HEe := Lib.hid he
        clear HEq he
        go_wp2_with fail
        refine Calls.mono (HEq1.out w4 (Below.refl _ _)) ?_
        rintro r w5 ⟨rfl, b5⟩
        have H5 := Lib.hid (show Bk w5 Rb 25 #[.slice none 0 0, .slice none 0 0] ∧ Below w.heap.size w w5 ∧ Bk w5 Gb 25 #[.slice gA gN gc, .slice gA2 gM gc2] ∧ Below w2.heap.size w2 w5 from ⟨H4.out.1.below b5 H4.out.1.lt, H4.out.2.1.trans (b5.mono H4.out.2.1.size), H4.out.2.2.1.below b5 H4.out.2.2.1.lt, H4.out.2.2.2.trans (b5.mono H4.out.2.2.2.size)⟩)
        clear b5 H4 HEq1
        obtain ⟨g0, g1⟩ := H5.out.2.2.1.two
        have hGl := H5.out.2.2.1.lt
        obtain ⟨q0, q1⟩ := H5.out.1.two
        have hRl := H5.out.1.lt
        have hfr0 := H5.out.1.free 0
        have hfr1 := H5.out.1.free 1
        have hne := H3.out.2.2.2.2
        go_wp2_with fail
        obtain ⟨V, hV⟩ : ∃ V, V = ((w5.setCell ⟨Rb, 0, none⟩ (.slice gA gN gc)).setCell ⟨Rb, 1, none⟩ (.slice gA2 gM gc2)) := ⟨_, rfl⟩
        have kR : Bk V Rb 25 #[.slice gA gN gc, .slice gA2 gM gc2] := by rw [hV]; exact two_set H5.out.1
        have kK : Kept (fun j => j = Rb) w5 V := by
          rw [hV]
          exact (Kept.set w5 Rb 0 _).trans (Kept.set _ Rb 1 _)
        have kB : Below w.heap.size w V := by rw [hV]; exact two_below H5.out.2.1 HFr.out
        have hl := run_loadVar_row (P := Try.prog) V Rb 25 25 #[.slice gA gN gc, .slice gA2 gM gc2] (0, 0) _ kR Try.underlying25 rfl (by kernel_rfl)
        rw [← hV]
        clear hV q0 q1 hRl hfr0 hfr1 g0 g1 hGl
        refine bodyPost_ret (res2 (p := 2) (u := 3) (by kernel_rfl) hl rfl rfl) rfl ?_
        rw [HE.out]
        have hN5 : NOwn w5 w1.heap.size (.slice gA gN gc) gns := by
          have h := HOw.out.1
          rw [HGN.out.1]
          exact h.below H5.out.2.2.2
        have hR5 : ROwn w5 w1.heap.size (.slice gA2 gM gc2) grs := by
          have h := HOw.out.2.1
          rw [HGN.out.2]
          exact h.below H5.out.2.2.2
        have hNV : NOwn V w1.heap.size (.slice gA gN gc) gns := by
          refine hN5.grown (q := Rb) ⟨kK.os, kK.tape, kK.output, kK.size, fun j hj hn => kK.block j hj (fun e => hn (by rw [e]))⟩ (fun hm => ?_)
          have := blks_ge hN5 Rb hm
          have := HOw.out.2.2.1
          omega
        have hRV : ROwn V w1.heap.size (.slice gA2 gM gc2) grs := kK.rowF hR5 (fun j hj hh => by have h9 := (World.ownsRow.lt hR5 j hj).1; have := HOw.out.2.2.1; omega)
        obtain ⟨r1, r2, r3⟩ := hNV.rows
        obtain ⟨t1, t2, t3⟩ := hRV.rows
        refine .inr ⟨⟨gA, gc, gA2, gc2, gns, grs⟩, ?_, ⟨r1, t1, r3, t3⟩, HCk.out.1, HCk.out.2, HEe.out, kB, ?_, ?_⟩
        · show _ = Ending.returned (.tuple #[.agg #[.slice gA gns.length gc, .slice gA2 grs.length gc2], .int .i64 0])
          rw [← HGN.out.1, ← HGN.out.2]
          rfl
        · show NOwn V w.heap.size (.slice gA gns.length gc) gns
          rw [← r2]
          exact hNV.mono HOw.out.2.2.2
        · show ROwn V w.heap.size (.slice gA2 grs.length gc2) grs
          rw [← t2]
          exact hRV.mono HOw.out.2.2.2
      · have HEq1 := Lib.hid (fun W (b : Below w4.heap.size w4 W) => show Calls Try.prog 39 #[.slice vA vn vc, .slice A n c] W (RetP (.bool false) W) from by have h := HEq.out W b; rw [decide_eq_false he] at h; exact h)
        have HBad := Lib.hid (show BadW ws from fun g' k1 k2 e => by
          obtain ⟨s1, s2⟩ := read_same (g := ⟨gA, gc, gA2, gc2, gns, grs⟩) HG.out.2.1 HG.out.2.2.1 HG.out.2.2.2.1 k1 k2 e
          obtain ⟨s3, _, _⟩ := enc_same (g := ⟨gA, gc, gA2, gc2, gns, grs⟩) s1 s2
          exact he (s3.trans e))
        clear HEq he
        go_wp2_with fail
        refine Calls.mono (HEq1.out w4 (Below.refl _ _)) ?_
        rintro r w5 ⟨rfl, b5⟩
        have H5 := Lib.hid (show Bk w5 Rb 25 #[.slice none 0 0, .slice none 0 0] ∧ Below w.heap.size w w5 from ⟨H4.out.1.below b5 H4.out.1.lt, H4.out.2.1.trans (b5.mono H4.out.2.1.size)⟩)
        clear b5 H4 HEq1
        obtain ⟨q0, q1⟩ := H5.out.1.two
        have hRl := H5.out.1.lt
        have hfr0 := H5.out.1.free 0
        have hfr1 := H5.out.1.free 1
        go_wp2_with fail
        obtain ⟨V, hV⟩ : ∃ V, V = ((w5.setCell ⟨Rb, 0, none⟩ (.slice none 0 0)).setCell ⟨Rb, 1, none⟩ (.slice none 0 0)) := ⟨_, rfl⟩
        have kR : Bk V Rb 25 #[.slice none 0 0, .slice none 0 0] := by rw [hV]; exact two_set H5.out.1
        have kB : Below w.heap.size w V := by rw [hV]; exact two_below H5.out.2 HFr.out
        have hl := run_loadVar_row (P := Try.prog) V Rb 25 25 #[.slice none 0 0, .slice none 0 0] (0, 0) _ kR Try.underlying25 rfl (by kernel_rfl)
        rw [← hV]
        clear hV q0 q1 hRl hfr0 hfr1
        refine bodyPost_ret (res2 (p := 2) (u := 3) (by kernel_rfl) hl rfl rfl) rfl ?_
        rw [HE.out]
        exact .inl ⟨rfl, kB, HBad.out⟩
end Go.Proofs.Ytkkjnahjmomjgaa
/- loamlaw23.known. No conditions. -/
namespace Go.Proofs.Ytkkjnahjmomjgaa
set_option linter.unusedVariables false
set_option linter.unusedSimpArgs false
open Go.RowKit Go.Maps
set_option maxHeartbeats 4000000
set_option maxRecDepth 100000
theorem ck_small {g : Gv} (h : ckG g = 0) (ht : endL g.n (2 + 5 * g.r.length) ≤ 8192) : g.Small := by
  obtain ⟨h1, h2, _⟩ := ckG_ok h
  have hl := endL_len g.n (2 + 5 * g.r.length)
  exact ⟨by omega, by omega, fun x hx => by have := h1 x hx; omega⟩
theorem norm_m {x y : List Nv} (h : x.map normN = y.map normN) : x.map Nv.m = y.map Nv.m := by
  have e : ∀ l : List Nv, l.map Nv.m = (l.map normN).map Nv.m := fun l => by
    rw [List.map_map]
    exact List.map_congr_left fun z _ => rfl
  rw [e x, e y, h]
theorem m_norm {x y : List Nv} (h : x.map Nv.m = y.map Nv.m) : x.map normN = y.map normN := by
  have e : ∀ l : List Nv, l.map normN = (l.map Nv.m).map (fun p => (⟨none, 0, none, 0, p.1, p.2⟩ : Nv)) := fun l => by
    rw [List.map_map]
    exact List.map_congr_left fun z _ => rfl
  rw [e x, e y, h]
theorem same_norm {a b : Gv} : sameG a b = true ↔ (a.n.map normN = b.n.map normN ∧ a.r = b.r) := by
  unfold sameG
  rw [Bool.and_eq_true, sameR_iff, sameNs_iff]
  exact ⟨fun h => ⟨m_norm h.2, h.1⟩, fun h => ⟨h.2, norm_m h.1⟩⟩
def iN1 (s : Nat) : List Nv := [⟨some ⟨s, 0, none⟩, 1, some ⟨s + 1, 0, none⟩, 1, [1], [120#8]⟩]
def iR1 : List Rv := [⟨⟨#[97]⟩, 1⟩]
def iG (s : Nat) : Gv := ⟨some ⟨s + 1 + 1, 0, none⟩, 1, some ⟨s + 1 + 1 + 1, 0, none⟩, 1, iN1 s, iR1⟩
def iW (w : World) : World := (((((w.alloc (.cells #[.int .i64 1] 3)).alloc (.cells #[.int .u8 120] 5 (1, 2))).alloc
              (.cells #[.slice (some ⟨w.heap.size, 0, none⟩) 1 1, .slice (some ⟨w.heap.size + 1, 0, none⟩) 1 1] 54)).alloc
          (.cells #[.string ⟨#[97]⟩, .int .i64 1] 56)).alloc
      (.cells #[.slice (some ⟨w.heap.size + 1 + 1, 0, none⟩) 1 1, .slice (some ⟨w.heap.size + 1 + 1 + 1, 0, none⟩) 1 1] 25))
theorem at_new23 (w : World) (o : Obj) (k : Nat) (h : k = w.heap.size) : (w.alloc o).heap[k]? = some o := by subst h; exact heap_alloc_new w o
theorem at_old23 {w : World} {o x : Obj} {k : Nat} (h : w.heap[k]? = some x) : (w.alloc o).heap[k]? = some x := by
  have hl := (Array.getElem?_eq_some_iff.1 h).1
  exact (Below.heap_alloc w o k hl).trans h
theorem iW_blocks (w : World) : (iW w).heap[w.heap.size]? = some (.cells #[.int .i64 1] 3) ∧ (iW w).heap[w.heap.size + 1]? = some (.cells #[.int .u8 120] 5 (1, 2)) ∧
    (iW w).heap[w.heap.size + 1 + 1]? = some (.cells #[.slice (some ⟨w.heap.size, 0, none⟩) 1 1, .slice (some ⟨w.heap.size + 1, 0, none⟩) 1 1] 54) ∧
    (iW w).heap[w.heap.size + 1 + 1 + 1]? = some (.cells #[.string ⟨#[97]⟩, .int .i64 1] 56) ∧
    Bk (iW w) (w.heap.size + 1 + 1 + 1 + 1) 25 #[.slice (some ⟨w.heap.size + 1 + 1, 0, none⟩) 1 1, .slice (some ⟨w.heap.size + 1 + 1 + 1, 0, none⟩) 1 1] ∧ (iW w).heap.size = w.heap.size + 5 ∧ Below w.heap.size w (iW w) := by
  unfold iW
  refine ⟨at_old23 (at_old23 (at_old23 (at_old23 (at_new23 _ _ _ rfl)))), at_old23 (at_old23 (at_old23 (at_new23 _ _ _ (by simp)))), at_old23 (at_old23 (at_new23 _ _ _ (by simp))), at_old23 (at_new23 _ _ _ (by simp)), at_new23 _ _ _ (by simp), by simp, ((((Below.refl _ w |>.alloc (Nat.le_refl _) _).alloc (by simp) _).alloc (by simp; omega) _).alloc (by simp; omega) _).alloc (by simp; omega) _⟩
theorem iG_at (w : World) : (iG w.heap.size).At (iW w) (iW w).heap.size := by
  obtain ⟨b1, b2, b3, b4, b5, hz, _⟩ := iW_blocks w
  refine ⟨fun i hi => ?_, fun i hi => ?_, by show 1 ≤ 1; omega, by show 1 ≤ 1; omega⟩
  · have hi1 : i = 0 := by have h : i < 1 := hi; omega
    subst hi1
    refine ⟨⟨w.heap.size + 1 + 1, 0, none⟩, rfl, by rw [hz]; show w.heap.size + 1 + 1 < _; omega, ?_, ?_, ⟨fun j hj => ?_, fun j hj => ?_, by show 1 ≤ 1; omega, by show 1 ≤ 1; omega⟩⟩
    · rw [addr_at, cell_of_row _ _ _ _ _ _ b3]; rfl
    · rw [addr_at]; show (iW w).cell? ⟨_, 1, none⟩ = _; rw [cell_of_row _ _ _ _ _ _ b3]; rfl
    · have : j = 0 := by have h : j < 1 := hj; omega
      subst this
      exact ⟨⟨w.heap.size, 0, none⟩, rfl, by rw [hz]; show w.heap.size < _; omega, by rw [addr_at, cell_of_row _ _ _ _ _ _ b1]; rfl⟩
    · have : j = 0 := by have h : j < 1 := hj; omega
      subst this
      exact ⟨⟨w.heap.size + 1, 0, none⟩, rfl, by rw [hz]; show w.heap.size + 1 < _; omega, by rw [addr_at, cell_of_row _ _ _ _ _ _ b2]; rfl⟩
  · have hi1 : i = 0 := by have h : i < 1 := hi; omega
    subst hi1
    refine ⟨⟨w.heap.size + 1 + 1 + 1, 0, none⟩, rfl, by rw [hz]; show w.heap.size + 1 + 1 + 1 < _; omega, ?_, ?_⟩
    · rw [addr_at, cell_of_row _ _ _ _ _ _ b4]; rfl
    · rw [addr_at]; show (iW w).cell? ⟨_, 1, none⟩ = _; rw [cell_of_row _ _ _ _ _ _ b4]; rfl
theorem iG_ck (s : Nat) : ckG (iG s) = 0 := by
  have h1 : ckNodes 1 (iN1 s) = 0 := by simp [iN1, ckNodes, ckNode, okP, hasG]
  have h2 : ckRoots 1 emptyS iR1 = 0 := by decide +kernel
  unfold ckG
  have e1 : ckNodes (iG s).n.length (iG s).n = 0 := h1
  have e2 : ckRoots (iG s).n.length emptyS (iG s).r = 0 := h2
  have e3 : ¬ 64 < (iG s).r.length := by show ¬ 64 < 1; omega
  rw [if_pos e1, if_neg e3, e2]
theorem iG_end (s : Nat) : endL (iG s).n (2 + 5 * (iG s).r.length) = 10 := by
  show endL (iN1 s) 7 = 10
  simp [iN1, endL, szG]
theorem iG_enc (s : Nat) : encW (iG s).n (iG s).r = [1296125772#64, 655361#64, 97#64, 0#64, 0#64, 0#64, 8#64, 9223372036854841346#64, 8#64, 120#64] := by
  have e : encW ((iN1 s).map normN) iR1 = encW (iN1 s) iR1 := enc_norm _ _
  show encW (iN1 s) iR1 = _
  rw [← e]
  show encW [⟨none, 0, none, 0, [1], [120#8]⟩] iR1 = _
  decide +kernel
theorem iG_need (w W : World) (h : (iG w.heap.size).At W W.heap.size) : Calls Try.prog 14 #[.agg #[.slice (some ⟨w.heap.size + 1 + 1, 0, none⟩) 1 1, .slice (some ⟨w.heap.size + 1 + 1 + 1, 0, none⟩) 1 1]] W (RetP (.int .i64 10) W) := by
  have h1 := ineed_c W (iG w.heap.size) h (ck_small (iG_ck _) (by rw [iG_end]; omega))
  have e : wordsL (iG w.heap.size).n = 3 := by simp [iG, iN1, wordsL, szN, sizeH, rightH]
  rw [e] at h1
  exact h1
theorem iG_encode (w W : World) (h : (iG w.heap.size).At W W.heap.size) : Calls Try.prog 10 #[.agg #[.slice (some ⟨w.heap.size + 1 + 1, 0, none⟩) 1 1, .slice (some ⟨w.heap.size + 1 + 1 + 1, 0, none⟩) 1 1]] W (fun r w' => ∃ v, r = .returned (.tuple #[v, .int .i64 0]) ∧ Ow u64v 57 w' W.heap.size v (encW (iG w.heap.size).n (iG w.heap.size).r) ∧ Below W.heap.size W w') := by
  refine Calls.mono (iencode_c W (iG w.heap.size) h (ck_small (iG_ck _) (by rw [iG_end]; omega))) ?_
  rintro r w' (⟨hne, _⟩ | ⟨_, _, v, rfl, how, b⟩)
  · refine absurd ?_ hne
    unfold errG
    rw [if_pos (iG_ck _), if_neg (by rw [iG_end]; omega)]
  · exact ⟨v, rfl, how, b⟩
theorem ow_iU_some {w : World} {B : Nat} {v : Value} {l : List (BitVec 64)} (h : Ow u64v 57 w B v l) (hl : 0 < l.length) : ∃ q c, v = .slice (some ⟨q, 0, none⟩) l.length c ∧ B ≤ q ∧ q < w.heap.size := by
  rcases h.2 with ⟨e, hn⟩ | ⟨g, cap, cur, e, hb, hh, hc, _⟩
  · exact absurd hn (by omega)
  · exact ⟨g, cap, e, hb, (Array.getElem?_eq_some_iff.1 hh).1⟩
theorem decode_nil (W : World) : Calls Try.prog 16 #[.slice none 0 0] W (RetP (.tuple #[.agg #[.slice none 0 0, .slice none 0 0], .int .i64 2]) W) := by
  refine Calls.mono (decode_c W none 0 [] Rd.nil (by decide)) ?_
  rintro r w' (⟨rfl, b, _⟩ | ⟨g, _, _, hck, hend, e, _⟩)
  · exact ⟨rfl, b⟩
  · have h := (enc_read hck hend).1
    rw [e] at h
    exact absurd h (by decide)
theorem known23_c (w : World) : Calls Try.prog 7 #[] w (RetP (.bool true) w) := by
  have kc := Joins.run_convert_bytes_const_at (P := Try.prog) (w.alloc (.cells #[.int .i64 1] 3)) 52 5 #[.int .u8 120] 1 1 (w.heap.size + 1) (by simp) Try.underlying52 Try.underlying5
  have HB := Lib.hid (iW_blocks w)
  have HGA := Lib.hid (iG_at w)
  have HDn := Lib.hid decode_nil
  have HEn := Lib.hid (fun W h => iG_encode w W h)
  have HNd := Lib.hid (fun W h => iG_need w W h)
  go_enter Try.func7, Try.ntmps7
  go_wp2_with fail
  refine Calls.mono (HEn.out (iW w) HGA.out) ?_
  clear kc
  obtain ⟨KW, hKW⟩ : ∃ K, K = iW w := ⟨_, rfl⟩
  rw [← hKW] at HB HGA ⊢
  clear hKW
  rintro r w2 ⟨v, rfl, how, b2⟩
  obtain ⟨q, c, ev, hq1, hq2⟩ := ow_iU_some how (by rw [iG_enc]; decide)
  subst ev
  have hl10 : (encW (iG w.heap.size).n (iG w.heap.size).r).length = 10 := by rw [iG_enc]; rfl
  have HRd := Lib.hid (show Rd u64v w2 w2.heap.size (some ⟨q, 0, none⟩) (encW (iG w.heap.size).n (iG w.heap.size).r) from how.rd)
  have HCl := Lib.hid (show w2.cell? ⟨q, 0, none⟩ = some (.int .u64 1296125772) ∧ w2.cell? ⟨q, 1, none⟩ = some (.int .u64 655361) ∧ w2.cell? ⟨q, 2, none⟩ = some (.int .u64 97) ∧ w2.cell? ⟨q, 6, none⟩ = some (.int .u64 8) ∧ w2.cell? ⟨q, 8, none⟩ = some (.int .u64 8) ∧ w2.cell? ⟨q, 9, none⟩ = some (.int .u64 120) ∧ q < w2.heap.size from by
    rw [iG_enc] at how
    exact ⟨how.cell (j := 0) (by decide), how.cell (j := 1) (by decide), how.cell (j := 2) (by decide), how.cell (j := 6) (by decide), how.cell (j := 8) (by decide), how.cell (j := 9) (by decide), hq2⟩)
  have H2 := Lib.hid (show Bk w2 (w.heap.size + 1 + 1 + 1 + 1) 25 #[.slice (some ⟨w.heap.size + 1 + 1, 0, none⟩) 1 1, .slice (some ⟨w.heap.size + 1 + 1 + 1, 0, none⟩) 1 1] ∧ (iG w.heap.size).At w2 w2.heap.size ∧ Below w.heap.size w w2 from
    ⟨HB.out.2.2.2.2.1.below b2 HB.out.2.2.2.2.1.lt, HGA.out.up b2, HB.out.2.2.2.2.2.2.trans (b2.mono HB.out.2.2.2.2.2.2.size)⟩)
  have HDc := Lib.hid (fun W (b : Below w2.heap.size w2 W) => decode_c W (some ⟨q, 0, none⟩) c (encW (iG w.heap.size).n (iG w.heap.size).r) ((HRd.out.below b).more b.size) (by rw [hl10]; decide))
  rw [hl10] at HDc ⊢
  clear how b2 hq1 hq2 hl10 HGA HB HEn
  go_wp2_with fail
  refine Calls.mono (HDc.out w2 (Below.refl _ _)) ?_
  rintro r w3 (⟨_, _, hbad⟩ | ⟨h, rfl, hat, hck, hend, he, b3, _, _⟩)
  · exact absurd rfl (hbad (iG w.heap.size) (iG_ck _) (by rw [iG_end]; omega))
  · obtain ⟨s1, s2⟩ := enc_inj hck hend (iG_ck w.heap.size) (by rw [iG_end]; omega) he
    have HSm := Lib.hid (same_norm.2 ⟨s1, s2⟩)
    have HHa := Lib.hid (And.intro hat (ck_small hck hend))
    have hcl := HCl.out
    have H3 := Lib.hid (show Bk w3 (w.heap.size + 1 + 1 + 1 + 1) 25 #[.slice (some ⟨w.heap.size + 1 + 1, 0, none⟩) 1 1, .slice (some ⟨w.heap.size + 1 + 1 + 1, 0, none⟩) 1 1] ∧ (iG w.heap.size).At w3 w3.heap.size ∧ Below w.heap.size w w3 ∧ Below w2.heap.size w2 w3 from
      ⟨H2.out.1.below b3 H2.out.1.lt, H2.out.2.1.up b3, H2.out.2.2.trans (b3.mono H2.out.2.2.size), b3⟩)
    have HEq := Lib.hid (fun W (b : Below w3.heap.size w3 W) => show Calls Try.prog 17 #[h.v, (iG w.heap.size).v] W (RetP (.bool true) W) from by
      have h1 := equalG_c W h (iG w.heap.size) (HHa.out.1.up b) (H3.out.2.1.up b) HHa.out.2
      rw [HSm.out] at h1
      exact h1)
    obtain ⟨gA, gc, gA2, gc2, gns, grs⟩ := h
    obtain ⟨gN, hgN⟩ : ∃ z, z = gns.length := ⟨_, rfl⟩
    obtain ⟨gM, hgM⟩ : ∃ z, z = grs.length := ⟨_, rfl⟩
    unfold Gv.v Gv.vn Gv.vr at HEq ⊢
    simp only at HEq ⊢
    rw [← hgN, ← hgM] at HEq ⊢
    clear hat hck hend he b3 s1 s2 HSm HHa hgN hgM hcl HDc H2
    go_wp2_with fail
    obtain ⟨Hb, hHb⟩ : ∃ G, G = w3.heap.size := ⟨_, rfl⟩
    obtain ⟨w4, hw4⟩ : ∃ W, W = w3.alloc (.cells #[.slice gA gN gc, .slice gA2 gM gc2] 25) := ⟨_, rfl⟩
    have hbk : Bk w4 Hb 25 #[.slice gA gN gc, .slice gA2 gM gc2] := by rw [hw4, hHb]; exact Bk.new w3 _ _
    have b4 : Below w3.heap.size w3 w4 := by rw [hw4]; exact Gw.alloc w3 _
    rw [← hw4, ← hHb]
    have H4 := Lib.hid (And.intro hbk b4)
    clear hw4 hHb hbk b4
    refine Calls.mono (HDn.out w4) ?_
    rintro r w5 ⟨rfl, b5⟩
    have H5 := Lib.hid (show Bk w5 Hb 25 #[.slice gA gN gc, .slice gA2 gM gc2] ∧ Below w3.heap.size w3 w5 from ⟨H4.out.1.below b5 H4.out.1.lt, H4.out.2.trans (b5.mono H4.out.2.size)⟩)
    clear b5 H4
    have b25 : Below w2.heap.size w2 w5 := H3.out.2.2.2.trans (H5.out.2.mono H3.out.2.2.2.size)
    obtain ⟨d0, d1, d2, d6, d8, d9, hq⟩ := HCl.out
    have e0 := (b25.cell (p := ⟨q, 0, none⟩) hq).trans d0
    have e1 := (b25.cell (p := ⟨q, 1, none⟩) hq).trans d1
    have e2 := (b25.cell (p := ⟨q, 2, none⟩) hq).trans d2
    have e6 := (b25.cell (p := ⟨q, 6, none⟩) hq).trans d6
    have e8 := (b25.cell (p := ⟨q, 8, none⟩) hq).trans d8
    have e9 := (b25.cell (p := ⟨q, 9, none⟩) hq).trans d9
    have hq5 : q < w5.heap.size := Nat.lt_of_lt_of_le hq b25.size
    obtain ⟨x0, x1⟩ := H5.out.1.two
    have hHl := H5.out.1.lt
    have hb5 := H3.out.1.below H5.out.2 H3.out.1.lt
    obtain ⟨y0, y1⟩ := hb5.two
    have hGl := hb5.lt
    clear b25 d0 d1 d2 d6 d8 d9 hq
    have HEqA := Lib.hid (fun W (b : Below w5.heap.size w5 W) => HEq.out W (H5.out.2.trans (b.mono H5.out.2.size)))
    have HNdA := Lib.hid (fun W (b : Below w5.heap.size w5 W) => HNd.out W ((H3.out.2.1.up H5.out.2).up b))
    have HB5 := Lib.hid (show Below w.heap.size w w5 from H3.out.2.2.1.trans (H5.out.2.mono H3.out.2.2.1.size))
    have HBk := Lib.hid hb5
    clear hb5 HEq HNd
    go_wp2_with fail
    refine Calls.mono (HEqA.out _ (Gw.alloc w5 _)) ?_
    rintro r w6 ⟨rfl, b6⟩
    have b56 : Below w5.heap.size w5 w6 := (Gw.alloc w5 (.cells #[.slice none 0 0, .slice none 0 0] 25)).trans (b6.mono (Gw.alloc w5 _).size)
    have hb6 := HBk.out.below b56 HBk.out.lt
    obtain ⟨y0, y1⟩ := hb6.two
    have hGl := hb6.lt
    have HB6 := Lib.hid b56
    clear b6 b56 hb6 e0 e1 e2 e6 e8 e9
    go_wp2_with fail
    refine Calls.mono (HNdA.out w6 HB6.out) ?_
    rintro r w7 ⟨rfl, b7⟩
    have HB7 := Lib.hid (HB5.out.trans ((HB6.out.trans (b7.mono HB6.out.size)).mono HB5.out.size))
    clear b7
    go_wp2_with fail
    go_ret
    exact ⟨rfl, HB7.out⟩
end Go.Proofs.Ytkkjnahjmomjgaa
/- Encode's answer told by its error; ImageBack's regions. No conditions. -/
namespace Go.Proofs.Ytkkjnahjmomjgaa
set_option linter.unusedVariables false
set_option linter.unusedSimpArgs false
open Go.RowKit Go.Maps
set_option maxHeartbeats 8000000
set_option maxRecDepth 100000
/-- Encode's answer, told by its error. -/
def EncE (g : Gv) (w : World) (r : Ending) (w' : World) : Prop :=
  ∃ A n c, r = .returned (.tuple #[.slice A n c, .int .i64 (errG g)]) ∧ Below w.heap.size w w' ∧ (errG g = 0 → ckG g = 0 ∧ endL g.n (2 + 5 * g.r.length) ≤ 8192 ∧ n = (encW g.n g.r).length ∧ n ≤ c ∧ Rd u64v w' w'.heap.size A (encW g.n g.r)) ∧ (errG g ≠ 0 → A = none ∧ n = 0 ∧ c = 0)
theorem encX_e {g : Gv} {w w' : World} {r : Ending} (h : EncX g w r w') : EncE g w r w' := by
  rcases h with ⟨hne, rfl, b⟩ | ⟨hck, hend, v, rfl, how, b⟩
  · exact ⟨none, 0, 0, rfl, b, fun h => absurd h hne, fun _ => ⟨rfl, rfl, rfl⟩⟩
  · have e0 : errG g = 0 := by
      unfold errG
      rw [if_pos hck, if_neg (by omega)]
    obtain ⟨A, c, rfl, hc⟩ := how.form
    exact ⟨A, _, c, by rw [e0], b, fun _ => ⟨hck, hend, rfl, hc, how.rd⟩, fun h => absurd e0 h⟩
end Go.Proofs.Ytkkjnahjmomjgaa
/- What a graph that was trimmed keeps, but for its numbers (pure). No conditions. -/
namespace Go.Proofs.Ytkkjnahjmomjgaa
set_option linter.unusedVariables false
set_option linter.unusedSimpArgs false
open Go.RowKit Go.Maps
theorem ptrs_m (ns : List Nv) (p : Int) : ptrsG ns p = ((ns.map Nv.m)[(p - 1).toNat]?.map Prod.fst).getD [] := by
  unfold ptrsG
  rw [List.getElem?_map]
  cases ns[(p - 1).toNat]? <;> rfl
theorem pick1_m (ns : List Nv) (od : List Int) (p : Int) : pick1 ns od p = ((ns.map Nv.m)[(p - 1).toNat]?.map fun x => (x.1.map (newO od), x.2)).getD ([], []) := by
  unfold pick1
  rw [List.getElem?_map]
  cases ns[(p - 1).toNat]? <;> rfl
theorem iter_m {ns ns' : List Nv} (h : ns.map Nv.m = ns'.map Nv.m) (o : List Int) : ∀ i, iterW ns o i = iterW ns' o i
  | 0 => rfl
  | i + 1 => by
    have ih := iter_m h o i
    have hl : ns.length = ns'.length := by have := congrArg List.length h; rwa [List.length_map, List.length_map] at this
    cases e : (iterW ns o i)[i]? with
    | none => rw [iterW_none e, iterW_none (by rw [← ih]; exact e), ih]
    | some p => rw [iterW_some e, iterW_some (p := p) (by rw [← ih]; exact e), ih, ptrs_m, ptrs_m, h, hl]
theorem walk_m {ns ns' : List Nv} (h : ns.map Nv.m = ns'.map Nv.m) (fr : List Int) : walkL ns fr = walkL ns' fr := by
  have hl : ns.length = ns'.length := by have := congrArg List.length h; rwa [List.length_map, List.length_map] at this
  unfold walkL
  rw [hl]
  exact iter_m h _ _
theorem can_m {a b : Gv} (h : a.n.map Nv.m = b.n.map Nv.m) (h2 : a.r = b.r) : canM a = canM b ∧ canR a = canR b := by
  have hw := walk_m h (a.r.map (·.t))
  refine ⟨?_, ?_⟩
  · unfold canM pickN
    rw [hw, h2]
    exact List.map_congr_left fun p _ => by rw [pick1_m, pick1_m, h]
  · unfold canR
    rw [hw, h2]
theorem itrims {g gt : Gv} {L : List Bool} (h0 : ckG g = 0) (hl : L.length = g.n.length) (hs : ∀ p, hasG g.n.length p = true → (seenG L p = true ↔ Rch g.n (g.r.map (·.t) ++ []) p)) (hm : gt.n.map Nv.m = trimN (pairsB L 0 0) g.n L) (hr' : gt.r = g.r.map fun r => (⟨r.s, newP (pairsB L 0 0) r.t⟩ : Rv)) :
    ckG gt = 0 ∧ wordsL gt.n ≤ wordsL g.n ∧ gt.r.length = g.r.length ∧ gt.n.length ≤ g.n.length ∧ canM gt = canM g ∧ canR gt = canR g := by
  obtain ⟨hok, hrt⟩ := ck_ok h0
  obtain ⟨z1, z2, z3⟩ := ck_zero h0
  have hpk : Pk g.n (ordB L 0) gt.n := pk_of hl hs hok hm
  have hmem := pk_mem (fr := g.r.map (·.t) ++ []) hl hs
  have hr : gt.r = g.r.map (fun r => (⟨r.s, newO (ordB L 0) r.t⟩ : Rv)) := by rw [hr']; exact List.map_congr_left fun r _ => by rw [newO_pairs]
  have root : ∀ r ∈ g.r, r.t = 0 ∨ r.t ∈ ordB L 0 := fun r hr => by
    have h5 := okP_iff.1 (hrt r hr)
    by_cases e : r.t = 0
    · exact .inl e
    · exact .inr ((hmem _).2 (.base _ (List.mem_append.2 (.inl (List.mem_map.2 ⟨r, hr, rfl⟩))) (hasG_iff.2 (by omega))))
  have hmt : gt.r.map (·.t) = (g.r.map (·.t)).map (newO (ordB L 0)) := by rw [hr, List.map_map, List.map_map]; rfl
  obtain ⟨w1, w2⟩ := hpk.walk (fr := g.r.map (·.t)) (fun p hp => by
    obtain ⟨r, h, rfl⟩ := List.mem_map.1 hp
    exact root r h)
  obtain ⟨a1, a2⟩ := hpk.again w2
  refine ⟨?_, ?_, by rw [hr, List.length_map], by rw [hpk.len]; exact nd_le hpk.nd hpk.has, ?_, ?_⟩
  · unfold ckG
    rw [if_pos (hpk.ck z1), hr, List.length_map, if_neg (by omega)]
    exact ckRoots_map z3 (fun r h => hpk.okp (root r h))
  · rw [words_m, hm]; exact words_trim _ _ _
  · unfold canM
    rw [hmt, w1]; exact a2
  · unfold canR
    rw [hmt, w1, hr, List.map_map]
    exact List.map_congr_left fun r h => by
      show (⟨r.s, newO _ (newO (ordB L 0) r.t)⟩ : Rv) = _
      rw [a1 r.t (root r h)]
theorem okP_wf' {N : Nat} {p : Int} (hN : N ≤ 1000000) (h : okP N p = true) : (Lit.int .i64 p).wf = true := by
  have := okP_iff.1 h
  exact wfI (by omega) (by omega)
theorem can_ok {g : Gv} (h0 : ckG g = 0) (hs : g.Small) : CanOk g := by
  obtain ⟨hok, hrt⟩ := ck_ok h0
  obtain ⟨_, z2, _⟩ := ck_zero h0
  exact ⟨hs, by omega, fun x hx p hp => okP_wf' hs.1 (hok x hx p hp), fun r hr => okP_wf' hs.1 (hrt r hr)⟩
theorem fewp_trim {g t : Gv} {now : List (Int × Int)} {L : List Bool} (h : FewP g) (h1 : t.n.map Nv.m = trimN now g.n L) (h2 : t.r = g.r.map fun r => (⟨r.s, newP now r.t⟩ : Rv)) : FewP t := by
  obtain ⟨a, b⟩ := trimN_of now g.n L
  rw [← h1] at a b
  rw [List.length_map] at a
  refine ⟨by have := h.1; omega, by rw [h2, List.length_map]; exact h.2.1, fun x hx => ?_, fun r hr => ?_⟩
  · obtain ⟨y, hy, e⟩ := b x.m (List.mem_map.2 ⟨x, hx, rfl⟩)
    have := h.2.2.1 y hy
    unfold Nv.m at e
    injection e with e1 e2
    rw [e1, e2, List.length_map]
    exact this
  · rw [h2] at hr
    obtain ⟨s, hs, rfl⟩ := List.mem_map.1 hr
    exact h.2.2.2 s hs
set_option maxHeartbeats 8000000
set_option maxRecDepth 100000
theorem it10 (Q : Exit → Act → World → Prop) (a0 : Act) (w : World) (st sg sh : Nat) (gt g h : Gv) (A A2 B B2 C C2 : Option Addr) (N M K L X Y a1 a2 b1 b2 c1 c2 : Nat) (nt ng : Int) (ht : Hid (GBx w st gt (.slice A N a1) (.slice A2 M a2))) (hg : Hid (GBx w sg g (.slice B K b1) (.slice B2 L b2))) (hh : Hid (GBx w sh h (.slice C X c1) (.slice C2 Y c2))) (hn : Hid (∀ W, Below w.heap.size w W → Calls Try.prog 14 #[.agg #[.slice A N a1, .slice A2 M a2]] W (RetP (.int .i64 nt) W))) (hn2 : Hid (∀ W, Below w.heap.size w W → Calls Try.prog 14 #[.agg #[.slice B K b1, .slice B2 L b2]] W (RetP (.int .i64 ng) W))) (hs : Hid (∀ W, Below w.heap.size w W → Calls Try.prog 21 #[.agg #[.slice C X c1, .slice C2 Y c2], .agg #[.slice B K b1, .slice B2 L b2]] W (RetP (.bool true) W))) (hle : nt ≤ ng) (hsz : a0.tmps.size = 54) (sl1 : a0.tmps.getD 1 undef = .pointer (some ⟨sg, 0, none⟩)) (sl3 : a0.tmps.getD 3 undef = .pointer (some ⟨st, 0, none⟩)) (sl7 : a0.tmps.getD 7 undef = .pointer (some ⟨sh, 0, none⟩)) (sl8 : a0.tmps.getD 8 undef = .int .i64 0)
    (fin : ∀ (vals : Nat → Value) (w1 : World), Below w.heap.size w w1 → (IsV (.bool true)) (vals 14) w1 → Q .normal (putD vals [40, 41, 42, 43, 44, 45, 46, 47, 48, 49, 50, 51, 52, 53, 2] 0 a0) w1) :
    (Code.region 10 (regIn Try.f6 10) true).wp Try.prog Q a0 w := by
  refine region_by (G := fun w w1 => Below w.heap.size w w1) [IsV (.int .i64 0),
    IsV (.bool true),
    IsV (.bool true),
    IsV (.agg #[.slice A N a1, .slice A2 M a2]),
    IsV (.int .i64 nt),
    IsV (.agg #[.slice B K b1, .slice B2 L b2]),
    IsV (.int .i64 ng),
    IsV (.bool true),
    IsV (.bool true),
    IsV (.bool true),
    IsV (.agg #[.slice C X c1, .slice C2 Y c2]),
    IsV (.agg #[.slice B K b1, .slice B2 L b2]),
    IsV (.bool true),
    IsV (.bool true),
    IsV (.bool true)]
    [40, 41, 42, 43, 44, 45, 46, 47, 48, 49, 50, 51, 52, 53, 2] (by kernel_rfl) (Gw.drew _) Gw.trans (by rw [hsz]; kernel_rfl) (by kernel_rfl) ?_ ?_ ?_
  · intro f hf
    simp only [List.mem_cons, List.not_mem_nil, or_false] at hf
    rcases hf with rfl | rfl | rfl | rfl | rfl | rfl | rfl | rfl | rfl | rfl | rfl | rfl | rfl | rfl | rfl <;> intro v a b h g <;> first | exact IsV.mono h
  · refine ⟨?_, ?_, ?_, ?_, ?_, ?_, ?_, ?_, ?_, ?_, ?_, ?_, ?_, ?_, ?_, trivial⟩
    · exact owes_mv 8 (by kernel_rfl) (by kernel_rfl) (by kernel_rfl) sl8 (fun _ => rfl)
    · refine owes_v (Go.Op.binOp Go.BinOp.eql 3 (Go.Operand.tmp 40) (Go.Operand.const (Go.Value.int Go.IntKind.i64 0)) 3) 4 [0] (by kernel_rfl) (by kernel_rfl) (by kernel_rfl) rfl fun vals w1 ρ hG hF hρ hcst hfun => ?_
      have e40 : ρ (.tmp 40) = .int .i64 0 := ((hρ 40).trans (slotJ [0] (by rw [hsz]; decide) (by kernel_rfl))).trans (hF 0 (by decide))
      clear hρ hF hfun sl1 sl3 sl7 sl8 fin
      exact opv_val (by go_simp <;> rfl) ⟨gw_self _, rfl⟩
    · exact owes_mvj 1 41 (by kernel_rfl) (by kernel_rfl) (by kernel_rfl) (by kernel_rfl) (by rw [hsz]; decide) (fun v w h => h)
    · refine owes_vt 2 true (Go.Op.load 25 (Go.Operand.tmp 3)) 25 [] (by kernel_rfl) (by kernel_rfl) (by kernel_rfl) (fun _ _ h => h) (by rw [hsz]; kernel_rfl) (by kernel_rfl) rfl fun vals w1 ρ hG hF hρ hcst hfun => ?_
      have e3 : ρ (.tmp 3) = .pointer (some ⟨st, 0, none⟩) := ((hρ 3).trans (slotO [] (by kernel_rfl))).trans sl3
      obtain ⟨d0, d1, _⟩ := ht.out w1 hG
      clear hρ hF hcst hfun sl1 sl3 sl7 sl8 fin
      exact opv_val (by go_simp <;> rfl) ⟨gw_self _, rfl⟩
    · refine owes_vt 2 true (Go.Op.call { callee := Go.Callee.value (Go.Operand.func 14), args := #[Go.Operand.tmp 43], argTypes := #[25] }) 3 [3] (by kernel_rfl) (by kernel_rfl) (by kernel_rfl) (fun _ _ h => h) (by rw [hsz]; kernel_rfl) (by kernel_rfl) rfl fun vals w1 ρ hG hF hρ hcst hfun => ?_
      have e43 : ρ (.tmp 43) = .agg #[.slice A N a1, .slice A2 M a2] := ((hρ 43).trans (slotJ [3] (by rw [hsz]; decide) (by kernel_rfl))).trans (hF 3 (by decide))
      clear hρ hF hcst sl1 sl3 sl7 sl8 fin
      exact opv_enter (by go_simp <;> rfl) (of_ret (hn.out w1 hG))
    · refine owes_vt 2 true (Go.Op.load 25 (Go.Operand.tmp 1)) 25 [] (by kernel_rfl) (by kernel_rfl) (by kernel_rfl) (fun _ _ h => h) (by rw [hsz]; kernel_rfl) (by kernel_rfl) rfl fun vals w1 ρ hG hF hρ hcst hfun => ?_
      have e1 : ρ (.tmp 1) = .pointer (some ⟨sg, 0, none⟩) := ((hρ 1).trans (slotO [] (by kernel_rfl))).trans sl1
      obtain ⟨d0, d1, _⟩ := hg.out w1 hG
      clear hρ hF hcst hfun sl1 sl3 sl7 sl8 fin
      exact opv_val (by go_simp <;> rfl) ⟨gw_self _, rfl⟩
    · refine owes_vt 2 true (Go.Op.call { callee := Go.Callee.value (Go.Operand.func 14), args := #[Go.Operand.tmp 45], argTypes := #[25] }) 3 [5] (by kernel_rfl) (by kernel_rfl) (by kernel_rfl) (fun _ _ h => h) (by rw [hsz]; kernel_rfl) (by kernel_rfl) rfl fun vals w1 ρ hG hF hρ hcst hfun => ?_
      have e45 : ρ (.tmp 45) = .agg #[.slice B K b1, .slice B2 L b2] := ((hρ 45).trans (slotJ [5] (by rw [hsz]; decide) (by kernel_rfl))).trans (hF 5 (by decide))
      clear hρ hF hcst sl1 sl3 sl7 sl8 fin
      exact opv_enter (by go_simp <;> rfl) (of_ret (hn2.out w1 hG))
    · refine owes_vt 2 true (Go.Op.binOp Go.BinOp.leq 3 (Go.Operand.tmp 44) (Go.Operand.tmp 46) 3) 4 [4, 6] (by kernel_rfl) (by kernel_rfl) (by kernel_rfl) (fun _ _ h => h) (by rw [hsz]; kernel_rfl) (by kernel_rfl) rfl fun vals w1 ρ hG hF hρ hcst hfun => ?_
      have e44 : ρ (.tmp 44) = .int .i64 nt := ((hρ 44).trans (slotJ [4, 6] (by rw [hsz]; decide) (by kernel_rfl))).trans (hF 4 (by decide))
      have e46 : ρ (.tmp 46) = .int .i64 ng := ((hρ 46).trans (slotJ [4, 6] (by rw [hsz]; decide) (by kernel_rfl))).trans (hF 6 (by decide))
      have k := hle
      clear hρ hF hcst hfun sl1 sl3 sl7 sl8 fin
      exact opv_val (by go_simp <;> rfl) ⟨gw_self _, rfl⟩
    · refine owes_v (Go.Op.pick (Go.Operand.tmp 42) (Go.Operand.tmp 47) (Go.Operand.const (Go.Value.bool false))) 4 [2, 7] (by kernel_rfl) (by kernel_rfl) (by kernel_rfl) rfl fun vals w1 ρ hG hF hρ hcst hfun => ?_
      have e42 : ρ (.tmp 42) = .bool true := ((hρ 42).trans (slotJ [2, 7] (by rw [hsz]; decide) (by kernel_rfl))).trans (hF 2 (by decide))
      have e47 : ρ (.tmp 47) = .bool true := ((hρ 47).trans (slotJ [2, 7] (by rw [hsz]; decide) (by kernel_rfl))).trans (hF 7 (by decide))
      clear hρ hF hfun sl1 sl3 sl7 sl8 fin
      exact opv_val (by go_simp <;> rfl) ⟨gw_self _, rfl⟩
    · exact owes_mvj 8 48 (by kernel_rfl) (by kernel_rfl) (by kernel_rfl) (by kernel_rfl) (by rw [hsz]; decide) (fun v w h => h)
    · refine owes_vt 9 true (Go.Op.load 25 (Go.Operand.tmp 7)) 25 [] (by kernel_rfl) (by kernel_rfl) (by kernel_rfl) (fun _ _ h => h) (by rw [hsz]; kernel_rfl) (by kernel_rfl) rfl fun vals w1 ρ hG hF hρ hcst hfun => ?_
      have e7 : ρ (.tmp 7) = .pointer (some ⟨sh, 0, none⟩) := ((hρ 7).trans (slotO [] (by kernel_rfl))).trans sl7
      obtain ⟨d0, d1, _⟩ := hh.out w1 hG
      clear hρ hF hcst hfun sl1 sl3 sl7 sl8 fin
      exact opv_val (by go_simp <;> rfl) ⟨gw_self _, rfl⟩
    · refine owes_vt 9 true (Go.Op.load 25 (Go.Operand.tmp 1)) 25 [] (by kernel_rfl) (by kernel_rfl) (by kernel_rfl) (fun _ _ h => h) (by rw [hsz]; kernel_rfl) (by kernel_rfl) rfl fun vals w1 ρ hG hF hρ hcst hfun => ?_
      have e1 : ρ (.tmp 1) = .pointer (some ⟨sg, 0, none⟩) := ((hρ 1).trans (slotO [] (by kernel_rfl))).trans sl1
      obtain ⟨d0, d1, _⟩ := hg.out w1 hG
      clear hρ hF hcst hfun sl1 sl3 sl7 sl8 fin
      exact opv_val (by go_simp <;> rfl) ⟨gw_self _, rfl⟩
    · refine owes_vt 9 true (Go.Op.call { callee := Go.Callee.value (Go.Operand.func 21), args := #[Go.Operand.tmp 50, Go.Operand.tmp 51], argTypes := #[25, 25] }) 4 [10, 11] (by kernel_rfl) (by kernel_rfl) (by kernel_rfl) (fun _ _ h => h) (by rw [hsz]; kernel_rfl) (by kernel_rfl) rfl fun vals w1 ρ hG hF hρ hcst hfun => ?_
      have e50 : ρ (.tmp 50) = .agg #[.slice C X c1, .slice C2 Y c2] := ((hρ 50).trans (slotJ [10, 11] (by rw [hsz]; decide) (by kernel_rfl))).trans (hF 10 (by decide))
      have e51 : ρ (.tmp 51) = .agg #[.slice B K b1, .slice B2 L b2] := ((hρ 51).trans (slotJ [10, 11] (by rw [hsz]; decide) (by kernel_rfl))).trans (hF 11 (by decide))
      clear hρ hF hcst sl1 sl3 sl7 sl8 fin
      exact opv_enter (by go_simp <;> rfl) (of_ret (hs.out w1 hG))
    · refine owes_v (Go.Op.pick (Go.Operand.tmp 49) (Go.Operand.tmp 52) (Go.Operand.const (Go.Value.bool false))) 4 [9, 12] (by kernel_rfl) (by kernel_rfl) (by kernel_rfl) rfl fun vals w1 ρ hG hF hρ hcst hfun => ?_
      have e49 : ρ (.tmp 49) = .bool true := ((hρ 49).trans (slotJ [9, 12] (by rw [hsz]; decide) (by kernel_rfl))).trans (hF 9 (by decide))
      have e52 : ρ (.tmp 52) = .bool true := ((hρ 52).trans (slotJ [9, 12] (by rw [hsz]; decide) (by kernel_rfl))).trans (hF 12 (by decide))
      clear hρ hF hfun sl1 sl3 sl7 sl8 fin
      exact opv_val (by go_simp <;> rfl) ⟨gw_self _, rfl⟩
    · exact owes_mvj 13 53 (by kernel_rfl) (by kernel_rfl) (by kernel_rfl) (by kernel_rfl) (by rw [hsz]; decide) (fun v w h => h)
  · intro vals w1 hG hF
    exact fin vals w1 hG (hF 14 (by decide +kernel))
end Go.Proofs.Ytkkjnahjmomjgaa
