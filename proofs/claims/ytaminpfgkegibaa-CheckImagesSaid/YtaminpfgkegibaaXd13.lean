/- Texts joined: ImE ImF ImG GrE ImH DcG OpenW. -/
import Derived.Test.YtaminpfgkegibaaXd12
import Derived.Test.YtaminpfgkegibaaMmC
import Derived.Test.YtaminpfgkegibaaGrC
import Derived.Test.YtaminpfgkegibaaGrD
import Derived.Test.YtaminpfgkegibaaRegT
import Derived.Test.YtaminpfgkegibaaMmA
import Derived.Test.YtaminpfgkegibaaFrame
/- image.putRoot. Conditions: a name that may be, a node that is there. -/
namespace Go.Proofs.Ytaminpfgkegibaa
set_option linter.unusedVariables false
set_option linter.unusedSimpArgs false
open Go.RowKit Go.Maps
set_option maxHeartbeats 4000000
set_option maxRecDepth 100000
theorem putRoot_c (w : World) (B s g S b t e a bb qb cq : Nat) (v : Value) (ws : List (BitVec 64)) (ns : List Nv) (h : PuAt w B s g v ws b t e S (.slice (some ⟨qb, 0, none⟩) (ns.length + 1) cq) (plI ns bb)) (r : Rv) (hgd : goodS r.s = true) (ho : okP ns.length r.t = true) (hend : endL ns bb ≤ 8192) (ha : a + 4 < ws.length) (h8 : ws.length ≤ 8192) :
    Calls Try.prog 64 #[.pointer (some ⟨g, 0, none⟩), .int .i64 (a : Int), r.v, .slice (some ⟨qb, 0, none⟩) (ns.length + 1) cq] w (fun r' w' => r' = .returned (.int .i64 0) ∧ PuAt w' B s g v ((putK ws (8 * a) (nameW r.s) (nameW r.s).length).set (a + 4) (pointW (placeL ns bb) r.t)) b t e S (.slice (some ⟨qb, 0, none⟩) (ns.length + 1) cq) (plI ns bb) ∧ Below B w w' ∧ Two w w' s v.ownBlock) := by
  obtain ⟨st, to⟩ := r
  simp only at hgd ho ⊢
  unfold Rv.v
  simp only
  obtain ⟨k, hk⟩ : ∃ k, k = nameW st := ⟨_, rfl⟩
  have hkw : nW k := by rw [hk]; exact nameW_len (goodS_size hgd).2
  have HFX := Lib.hid (fun W => show Calls Try.prog 80 #[.string st] W (RetP (.tuple #[nV k, .int .i64 0]) W) from by
    have h1 := fix_ok (bitsOf st) W (good_bits hgd)
    rw [strB_bits, ← nameW_pad, ← hk] at h1
    exact h1)
  rw [← hk]
  obtain ⟨arr, harr⟩ : ∃ arr, arr = nC k := ⟨_, rfl⟩
  unfold nV at HFX
  rw [← harr] at HFX
  have HA := Lib.hid harr
  have HS32 := Lib.hid (show arr.size = 32 from by rw [harr]; exact nC_size hkw)
  have HONE := Lib.hid (show arr.all (·.oneCell') = true from by rw [harr]; exact nC_one k)
  obtain ⟨za, hza⟩ : ∃ za, za = nC zN := ⟨_, rfl⟩
  have hzero := zeroN
  rw [← hza] at hzero
  have HZS := Lib.hid (show za.size = 32 from by rw [hza]; exact nC_size zN_w)
  obtain ⟨⟨p0, p1⟩, p2, y, p3, p4, p5⟩ := point_val ns bb to ho hend
  obtain ⟨x, hx⟩ : ∃ x, x = pointW (placeL ns bb) to := ⟨_, rfl⟩
  rw [← hx] at p5 ⊢
  obtain ⟨pn, hpn⟩ : ∃ pn, pn = to.toNat := ⟨_, rfl⟩
  have pI : to = (pn : Int) := by omega
  subst pI
  have hpc := h.row.cell p2
  rw [p3, ← hpn] at hpc
  unfold iV at hpc
  have HPc := Lib.hid hpc
  obtain ⟨NN, hNN⟩ : ∃ NN, NN = ns.length + 1 := ⟨_, rfl⟩
  have pN : (pn : Int) < (NN : Int) := by omega
  have pZ : (0 : Int) ≤ (pn : Int) := by omega
  have hqb : qb < w.heap.size ∧ S ≤ qb := ⟨h.row.ge.2, h.row.ge.1⟩
  rw [← hNN] at h ⊢
  obtain ⟨a8, ha8⟩ : ∃ a8, a8 = 8 * a := ⟨_, rfl⟩
  obtain ⟨a4, ha4⟩ : ∃ a4, a4 = a + 4 := ⟨_, rfl⟩
  rw [← ha8, ← ha4]
  have q1 : (a : Int) * 8 = (a8 : Int) := by omega
  have q2 : (a : Int) + 4 = (a4 : Int) := by omega
  have q3 : (a8 : Int) ≤ 65536 := by omega
  have q4 : (a4 : Int) ≤ 8192 := by omega
  have q5 : (y : Int) - 1 + 1 = (y : Int) := by omega
  have q6 : (y : Int) ≤ 8192 := by omega
  have q7 : (0 : Int) ≤ (a : Int) := by omega
  have hkl : k.length = 32 := hkw
  have HSB := Lib.hid (fun W (m : MemAt W B g v ws) (q : Nat) (hb : Bk W q 147 arr) (hq : some q ≠ v.ownBlock) => setBytes_in W B g v ws a8 (some ⟨q, 0, none⟩) 32 k (by omega) (by omega) m (nrd (harr ▸ hb) hb.lt) (fun _ x hx => by injection hx with hx; rw [← hx]; exact hq))
  have hpl : (putK ws a8 k k.length).length = ws.length := putK_len _ _ _ _
  have HSt := Lib.hid (fun W (m : MemAt W B g v (putK ws a8 k k.length)) => set_in W B g v (putK ws a8 k k.length) a4 x (by omega) (by omega) m)
  rw [p5] at HSt
  rw [hkl] at HSB
  have HL := Lib.hid (And.intro hpl (And.intro hkl hqb))
  have H0 := Lib.hid h
  have HVs := Lib.hid (fun i (hi : v.ownBlock = some i) => (h.sp.mem.row.lt i hi).2)
  clear h hgd ho hend ha h8 hk hkw harr hza p1 p2 p3 p4 p5 hx hpn hpc hNN hqb ha8 ha4 hkl hpl p0
  go_enter Try.func64, Try.ntmps64
  go_wp2_with fail
  obtain ⟨Rb, hRb⟩ : ∃ R, R = w.heap.size := ⟨_, rfl⟩
  obtain ⟨w1, hw1⟩ : ∃ W, W = w.alloc (.cells #[.string st, .int .i64 (pn : Int)] 99) := ⟨_, rfl⟩
  have hbk : Bk w1 Rb 99 #[.string st, .int .i64 (pn : Int)] := by rw [hw1, hRb]; exact Bk.new w _ _
  have b1 : Below w.heap.size w w1 := by rw [hw1]; exact Gw.alloc w _
  rw [← hw1, ← hRb]
  have HRb := Lib.hid hRb
  have H1 := Lib.hid (And.intro hbk b1)
  clear hw1 hRb hbk b1
  refine Calls.mono (HFX.out w1) ?_
  rintro r w2 ⟨rfl, b2⟩
  have H2 := Lib.hid (And.intro (H1.out.1.below b2 H1.out.1.lt) (H1.out.2.trans (b2.mono H1.out.2.size)))
  clear b2 H1
  have HQ2 := Lib.hid (Bk.new w2 147 za)
  have hl2 : w.heap.size ≤ w2.heap.size := H2.out.2.size
  have HB2 := Lib.hid (show Bk (w2.alloc (.cells za 147)) Rb 99 #[.string st, .int .i64 (pn : Int)] ∧ Below w.heap.size w (w2.alloc (.cells za 147)) ∧ Rb < w2.heap.size ∧ w.heap.size ≤ w2.heap.size from ⟨H2.out.1.alloc _, H2.out.2.trans ((Gw.alloc w2 _).mono hl2), H2.out.1.lt, hl2⟩)
  clear hl2 H2
  go_wp2_with (refine wp_storeN rfl _ _ rfl w2.heap.size arr rfl rfl 147 za HQ2.out HS32.out HZS.out HONE.out ?_; intro w3 k3 b3 o3; have H3 := Lib.hid (show Bk w3 w2.heap.size 147 arr ∧ Bk w3 Rb 99 #[.string st, .int .i64 (pn : Int)] ∧ Below w.heap.size w w3 ∧ some w2.heap.size ≠ v.ownBlock from ⟨k3, (o3 _ (by have := HB2.out.2.2.1; omega)).trans HB2.out.1, HB2.out.2.1.trans (b3 _ HB2.out.2.2.2), fun hh => by have := HVs.out _ hh.symm; have := HB2.out.2.2.2; omega⟩); clear k3 b3 o3)
  obtain ⟨Nb, hNb⟩ : ∃ q, q = w2.heap.size := ⟨_, rfl⟩
  rw [← hNb] at H3 ⊢
  have H4 := Lib.hid (H0.out.below H3.out.2.2.1)
  clear hNb HQ2 HB2
  refine Calls.mono (HSB.out w3 H4.out.sp.mem Nb H3.out.1 H3.out.2.2.2) ?_
  rintro r w5 ⟨rfl, m5, g5⟩
  rw [← HL.out.2.1] at m5
  have H5 := Lib.hid (show PuAt w5 B s g v (putK ws a8 k k.length) b t e S (.slice (some ⟨qb, 0, none⟩) NN cq) (plI ns bb) ∧ Below B w w5 ∧ Bk w5 Rb 99 #[.string st, .int .i64 (pn : Int)] ∧ w5.cell? ⟨qb, pn, none⟩ = some (.int .i64 ((y : Int) - 1)) ∧ qb < w5.heap.size ∧ Two w w5 s v.ownBlock from by
    have hsp := H4.out.sp.memTo m5 g5 HL.out.1
    have b35 : Below B w3 w5 := H4.out.sp.mem.own g5
    have hb0 : Below B w w3 := H3.out.2.2.1.mono H0.out.sp.mem.le
    refine ⟨H4.out.two hsp (Two.grown g5), hb0.trans b35, (Kept.grown g5).bk H3.out.2.1 (fun hh => ?_), ?_, ?_, (Two.below H3.out.2.2.1).trans (Two.grown g5)⟩
    · have := HVs.out _ hh; have := HRb.out; omega
    · rw [(Kept.grown g5).cell (p := ⟨qb, pn, none⟩) (Nat.lt_of_lt_of_le HL.out.2.2.1 H3.out.2.2.1.size) (fun hh => ?_), H3.out.2.2.1.cell (p := ⟨qb, pn, none⟩) HL.out.2.2.1]
      · exact HPc.out
      · have h9 : qb < S := H0.out.vs _ hh
        have := HL.out.2.2.2
        omega
    · exact Nat.lt_of_lt_of_le HL.out.2.2.1 (Nat.le_trans H3.out.2.2.1.size g5.size))
  clear m5 g5 H4 H3
  obtain ⟨g0, g1⟩ := H5.out.2.2.1.two
  have hRl := H5.out.2.2.1.lt
  have hpc := H5.out.2.2.2.1
  have hql := H5.out.2.2.2.2.1
  go_wp2_with fail
  refine Calls.mono (HSt.out w5 H5.out.1.sp.mem) ?_
  rintro r w6 ⟨rfl, m6, g6⟩
  have H6 := Lib.hid (show PuAt w6 B s g v ((putK ws a8 k k.length).set a4 x) b t e S (.slice (some ⟨qb, 0, none⟩) NN cq) (plI ns bb) ∧ Below B w w6 ∧ Two w w6 s v.ownBlock from
    ⟨H5.out.1.two (H5.out.1.sp.memTo m6 g6 List.length_set) (Two.grown g6), H5.out.2.1.trans (H5.out.1.sp.mem.own g6), H5.out.2.2.2.2.2.trans (Two.grown g6)⟩)
  clear m6 g6 g0 g1 hRl hpc hql H5
  go_wp2_with fail
  go_ret
  exact ⟨rfl, H6.out⟩
end Go.Proofs.Ytaminpfgkegibaa
/- image.Encode: the region of a Root. No conditions. -/
namespace Go.Proofs.Ytaminpfgkegibaa
set_option linter.unusedVariables false
set_option linter.unusedSimpArgs false
open Go.RowKit Go.Maps
set_option maxHeartbeats 4000000
set_option maxRecDepth 100000
theorem ien21 (Q : Exit → Act → World → Prop) (a0 : Act) (w : World) (g Rb i at_ : Nat) (st : ByteArray) (to : Int) (qb NN cq : Nat) (G : Nat → Prop) (K : World → Prop) (hR : Rb < w.heap.size) (hRn : ¬ G Rb) (c0 : w.cell? ⟨Rb, 0, none⟩ = some (.string st)) (c1 : w.cell? ⟨Rb, 1, none⟩ = some (.int .i64 to)) (hB : Hid (∀ W, Calls Try.prog 54 #[.int .i64 (i : Int)] W (RetP (.int .i64 (at_ : Int)) W))) (hK : ∀ a b, K a → Gw a b → K b) (hp : Hid (∀ W, Below w.heap.size w W → Calls Try.prog 64 #[.pointer (some ⟨g, 0, none⟩), .int .i64 (at_ : Int), .agg #[.string st, .int .i64 to], (.slice (some ⟨qb, 0, none⟩) NN cq)] W (fun e w2 => ∃ v, e = .returned v ∧ Kept G W w2 ∧ AndV (.int .i64 0) K v w2))) (hsz : a0.tmps.size = 84) (sl6 : a0.tmps.getD 6 undef = .pointer (some ⟨g, 0, none⟩)) (sl9 : a0.tmps.getD 9 undef = .slice (some ⟨qb, 0, none⟩) NN cq) (sl10 : a0.tmps.getD 10 undef = .int .i64 (i : Int)) (sl11 : a0.tmps.getD 11 undef = .pointer (some ⟨Rb, 0, none⟩))
    (fin : ∀ (vals : Nat → Value) (w1 : World), Kept G w w1 → (IsV (.int .i64 0)) (vals 6) w1 → (AndV (.int .i64 0) K) (vals 5) w1 → Q .normal (putO vals [some 72, some 73, some 74, some 75, some 76, some 77, some 12] 0 a0) w1) :
    (Code.region 21 (regIn Try.f27 21) true).wp Try.prog Q a0 w := by
  have hGs : ∀ (j : Nat) (v : Value) (w3 : World), (srcOf [] j = j → (([IsV (.pointer (some ⟨g, 0, none⟩)), IsV (.int .i64 (i : Int)), IsV (.int .i64 (at_ : Int)), IsV (.agg #[.string st, .int .i64 to]), IsV (.slice (some ⟨qb, 0, none⟩) NN cq), AndV (.int .i64 0) K, IsV (.int .i64 0)] : List (Value → World → Prop)).getD j fun _ _ => True) v w3) → (([IsV (.pointer (some ⟨g, 0, none⟩)), IsV (.int .i64 (i : Int)), IsV (.int .i64 (at_ : Int)), IsV (.agg #[.string st, .int .i64 to]), IsV (.slice (some ⟨qb, 0, none⟩) NN cq), AndV (.int .i64 0) K, IsV (.int .i64 0)] : List (Value → World → Prop)).getD j fun _ _ => True) v w3 := by
    intro j v w3 h
    match j, h with
    | 0, h => exact h rfl
    | 1, h => exact h rfl
    | 2, h => exact h rfl
    | 3, h => exact h rfl
    | 4, h => exact h rfl
    | 5, h => exact h rfl
    | 6, h => exact h rfl
    | _ + 7, _ => exact trivial
  refine region_byK [IsV (.pointer (some ⟨g, 0, none⟩)),
    IsV (.int .i64 (i : Int)),
    IsV (.int .i64 (at_ : Int)),
    IsV (.agg #[.string st, .int .i64 to]),
    IsV (.slice (some ⟨qb, 0, none⟩) NN cq),
    AndV (.int .i64 0) K,
    IsV (.int .i64 0)] [(5, fun w w1 => Kept G w w1)] []
    [some 72, some 73, some 74, some 75, some 76, some 77, some 12] (fun w1 => Kept G w w1) (by kernel_rfl) (Kept.of_below (Gw.drew _) _) (fun _ _ h g => h.trans (Kept.of_below g _)) 5 (fun w1 => Below w.heap.size w w1) (Gw.drew _) (fun _ _ h g => h.trans (Below.mono g h.size)) (by intro p hp; simp only [List.mem_cons, List.not_mem_nil, or_false] at hp; subst hp; rfl) (by rw [hsz]; kernel_rfl) (by kernel_rfl) (by kernel_rfl) ?_ ?_ ?_ ?_
  · intro f hf
    simp only [List.mem_cons, List.not_mem_nil, or_false] at hf
    rcases hf with rfl | rfl | rfl | rfl | rfl | rfl | rfl <;> intro v a b h g <;> first | exact IsV.mono h | exact BoxV.mono h g | exact BoxC.mono h g | exact AndV.mono hK h g
  · intro p hp
    simp only [List.mem_cons, List.not_mem_nil, or_false] at hp
    rcases hp with rfl
    · refine ⟨fun a b h1 h2 => h1.trans h2, ?_⟩
      intro f hf
      simp only [List.eraseIdx_cons_succ, List.eraseIdx_cons_zero, List.mem_cons, List.not_mem_nil, or_false] at hf
      rcases hf with rfl | rfl | rfl | rfl | rfl | rfl <;> intro v a b h g <;> exact h
  · refine ⟨?_, ?_, ?_, ?_, ?_, ?_, ?_, trivial⟩
    · refine OwesG.mk2 (D := Gw) (F' := fun j => ([IsV (.pointer (some ⟨g, 0, none⟩)), IsV (.int .i64 (i : Int)), IsV (.int .i64 (at_ : Int)), IsV (.agg #[.string st, .int .i64 to]), IsV (.slice (some ⟨qb, 0, none⟩) NN cq), AndV (.int .i64 0) K, IsV (.int .i64 0)] : List (Value → World → Prop)).getD j fun _ _ => True) rfl hGs (fun v w h => h) ?_
      exact owes_mvD gw_self 6 (by kernel_rfl) (by kernel_rfl) (by kernel_rfl) sl6 (fun _ => rfl)
    · refine OwesG.mk2 (D := Gw) (F' := fun j => ([IsV (.pointer (some ⟨g, 0, none⟩)), IsV (.int .i64 (i : Int)), IsV (.int .i64 (at_ : Int)), IsV (.agg #[.string st, .int .i64 to]), IsV (.slice (some ⟨qb, 0, none⟩) NN cq), AndV (.int .i64 0) K, IsV (.int .i64 0)] : List (Value → World → Prop)).getD j fun _ _ => True) rfl hGs (fun v w h => h) ?_
      exact owes_mvD gw_self 10 (by kernel_rfl) (by kernel_rfl) (by kernel_rfl) sl10 (fun _ => rfl)
    · refine OwesG.mk2 (D := Gw) (F' := fun j => ([IsV (.pointer (some ⟨g, 0, none⟩)), IsV (.int .i64 (i : Int)), IsV (.int .i64 (at_ : Int)), IsV (.agg #[.string st, .int .i64 to]), IsV (.slice (some ⟨qb, 0, none⟩) NN cq), AndV (.int .i64 0) K, IsV (.int .i64 0)] : List (Value → World → Prop)).getD j fun _ _ => True) rfl hGs (fun v w h => h) ?_
      refine owes_vD (Go.Op.call { callee := Go.Callee.value (Go.Operand.func 54), args := #[Go.Operand.tmp 73], argTypes := #[3] }) 3 [1] (by kernel_rfl) (by kernel_rfl) (by kernel_rfl) rfl fun vals w1 ρ hG hF hρ hcst hfun => ?_
      have e73 : ρ (.tmp 73) = .int .i64 (i : Int) := ((hρ 73).trans (slotJ [1] (by rw [hsz]; decide) (by kernel_rfl))).trans (hF 1 (by decide))
      obtain ⟨hG, _⟩ := hG
      clear hρ hF hGs hcst sl6 sl9 sl10 sl11 fin
      exact opv_enter (by go_simp <;> rfl) (of_ret (hB.out w1))
    · refine OwesG.mk2 (D := Gw) (F' := fun j => ([IsV (.pointer (some ⟨g, 0, none⟩)), IsV (.int .i64 (i : Int)), IsV (.int .i64 (at_ : Int)), IsV (.agg #[.string st, .int .i64 to]), IsV (.slice (some ⟨qb, 0, none⟩) NN cq), AndV (.int .i64 0) K, IsV (.int .i64 0)] : List (Value → World → Prop)).getD j fun _ _ => True) rfl hGs (fun v w h => h) ?_
      refine owes_vD (Go.Op.load 99 (Go.Operand.tmp 11)) 99 [] (by kernel_rfl) (by kernel_rfl) (by kernel_rfl) rfl fun vals w1 ρ hG hF hρ hcst hfun => ?_
      have e11 : ρ (.tmp 11) = .pointer (some ⟨Rb, 0, none⟩) := ((hρ 11).trans (slotO [] (by kernel_rfl))).trans sl11
      obtain ⟨hG, _⟩ := hG
      have k0 := (hG.cell (p := ⟨Rb, 0, none⟩) hR hRn).trans c0; have k1 := (hG.cell (p := ⟨Rb, 1, none⟩) hR hRn).trans c1
      clear hρ hF hGs hcst hfun sl6 sl9 sl10 sl11 fin
      exact opv_val (by go_simp <;> rfl) ⟨gw_self _, rfl⟩
    · refine OwesG.mk2 (D := Gw) (F' := fun j => ([IsV (.pointer (some ⟨g, 0, none⟩)), IsV (.int .i64 (i : Int)), IsV (.int .i64 (at_ : Int)), IsV (.agg #[.string st, .int .i64 to]), IsV (.slice (some ⟨qb, 0, none⟩) NN cq), AndV (.int .i64 0) K, IsV (.int .i64 0)] : List (Value → World → Prop)).getD j fun _ _ => True) rfl hGs (fun v w h => h) ?_
      exact owes_mvD gw_self 9 (by kernel_rfl) (by kernel_rfl) (by kernel_rfl) sl9 (fun _ => rfl)
    · refine OwesG.mk2 (D := fun w w1 => Kept G w w1) (F' := fun j => ([IsV (.pointer (some ⟨g, 0, none⟩)), IsV (.int .i64 (i : Int)), IsV (.int .i64 (at_ : Int)), IsV (.agg #[.string st, .int .i64 to]), IsV (.slice (some ⟨qb, 0, none⟩) NN cq), AndV (.int .i64 0) K, IsV (.int .i64 0)] : List (Value → World → Prop)).getD j fun _ _ => True) rfl hGs (fun v w h => h) ?_
      refine owes_vD (Go.Op.call { callee := Go.Callee.value (Go.Operand.func 64), args := #[Go.Operand.tmp 72, Go.Operand.tmp 74, Go.Operand.tmp 75, Go.Operand.tmp 76], argTypes := #[60, 3, 99, 69] }) 30 [0, 2, 3, 4] (by kernel_rfl) (by kernel_rfl) (by kernel_rfl) rfl fun vals w1 ρ hG hF hρ hcst hfun => ?_
      have e72 : ρ (.tmp 72) = .pointer (some ⟨g, 0, none⟩) := ((hρ 72).trans (slotJ [0, 2, 3, 4] (by rw [hsz]; decide) (by kernel_rfl))).trans (hF 0 (by decide))
      have e74 : ρ (.tmp 74) = .int .i64 (at_ : Int) := ((hρ 74).trans (slotJ [0, 2, 3, 4] (by rw [hsz]; decide) (by kernel_rfl))).trans (hF 2 (by decide))
      have e75 : ρ (.tmp 75) = .agg #[.string st, .int .i64 to] := ((hρ 75).trans (slotJ [0, 2, 3, 4] (by rw [hsz]; decide) (by kernel_rfl))).trans (hF 3 (by decide))
      have e76 : ρ (.tmp 76) = .slice (some ⟨qb, 0, none⟩) NN cq := ((hρ 76).trans (slotJ [0, 2, 3, 4] (by rw [hsz]; decide) (by kernel_rfl))).trans (hF 4 (by decide))
      obtain ⟨hG, hPre⟩ := hG; have hPre : Below w.heap.size w w1 := hPre
      clear hρ hF hGs hcst sl6 sl9 sl10 sl11 fin
      exact opv_enter (by go_simp <;> rfl) (hp.out w1 hPre)
    · refine OwesG.mk2 (D := Gw) (F' := fun j => ([IsV (.pointer (some ⟨g, 0, none⟩)), IsV (.int .i64 (i : Int)), IsV (.int .i64 (at_ : Int)), IsV (.agg #[.string st, .int .i64 to]), IsV (.slice (some ⟨qb, 0, none⟩) NN cq), AndV (.int .i64 0) K, IsV (.int .i64 0)] : List (Value → World → Prop)).getD j fun _ _ => True) rfl hGs (fun v w h => h) ?_
      exact owes_mvjD gw_self 5 77 (by kernel_rfl) (by kernel_rfl) (by kernel_rfl) (by kernel_rfl) (by rw [hsz]; decide) (fun v w h => h.1)
  · intro vals w1 hG hF
    exact fin vals w1 hG (hF 6 (by decide +kernel)) (hF 5 (by decide +kernel))
end Go.Proofs.Ytaminpfgkegibaa
/- image.Encode of any graph: its words, or why not. Conditions: lengths. -/
namespace Go.Proofs.Ytaminpfgkegibaa
set_option linter.unusedVariables false
set_option linter.unusedSimpArgs false
open Go.RowKit Go.Maps
set_option maxHeartbeats 8000000
set_option maxRecDepth 100000
theorem roots_all (pl : List Nat) (ns : List Nv) (rs : List Rv) (need : Nat) (h : need = endL ns (2 + 5 * rs.length)) (hp : pl = placeL ns (2 + 5 * rs.length)) : rootsW pl (frontW rs.length need) rs rs.length rs.length (ns.flatMap (nodeW pl)) = encW ns rs := by
  unfold rootsW encW
  rw [List.take_length, Nat.sub_self, h, hp]
  simp
theorem rootsW_len (pl : List Nat) (F : List (BitVec 64)) (rs : List Rv) (j : Nat) (C : List (BitVec 64)) (h32 : ∀ r ∈ rs, r.s.size ≤ 32) (hF : F.length = 2) (hj : j ≤ rs.length) : (rootsW pl F rs j rs.length C).length = 2 + 5 * rs.length + C.length := by
  unfold rootsW
  rw [List.length_append, List.length_append, List.length_append, List.length_replicate, roots_len _ _ (fun r hr => h32 r (List.mem_of_mem_take hr)), List.length_take, hF]
  omega
theorem roots_none (pl : List Nat) (rs : List Rv) (x y : BitVec 64) (C : List (BitVec 64)) : ((List.replicate (2 + 5 * rs.length) 0#64 ++ C).set 0 x).set 1 y = rootsW pl [x, y] rs 0 rs.length C := by
  unfold rootsW
  rw [List.take_zero, Nat.sub_zero, Nat.add_comm 2, List.replicate_succ, List.replicate_succ]
  rfl
theorem with_front (R t : Nat) (hR : R ≤ 64) (ht : t ≤ 8192) : withB (BitVec.ofNat 64 R) 16 32 (BitVec.ofNat 64 t) = BitVec.ofNat 64 (R + t * 65536) := by
  unfold withB
  rw [if_pos (by decide)]
  apply BitVec.eq_of_toNat_eq
  have hl : (lowB 32).toNat = 4294967295 := by decide +kernel
  have h1 : BitVec.ofNat 64 R &&& ~~~(lowB 32 <<< (16 : Int).toNat) = BitVec.ofNat 64 R := by
    apply BitVec.eq_of_getLsbD_eq
    intro i hi
    rw [BitVec.getLsbD_and, BitVec.getLsbD_not]
    by_cases h : i < 16
    · have e : (lowB 32 <<< (16 : Int).toNat).getLsbD i = false := by
        rw [BitVec.getLsbD_shiftLeft]
        have : i < (16 : Int).toNat := h
        simp [this]
        intro _ h2
        omega
      rw [e]
      simp [hi]
    · have e : (BitVec.ofNat 64 R).getLsbD i = false := by
        rw [BitVec.getLsbD_ofNat]
        have : R < 2 ^ i := Nat.lt_of_lt_of_le (show R < 2 ^ 16 by omega) (Nat.pow_le_pow_right (by decide) (by omega))
        simp [Nat.testBit_lt_two_pow this]
      rw [e]
      rfl
  have h2 : (BitVec.ofNat 64 t &&& lowB 32) = BitVec.ofNat 64 t := by
    apply BitVec.eq_of_toNat_eq
    rw [BitVec.toNat_and, hl, BitVec.toNat_ofNat, Nat.mod_eq_of_lt (by omega), show 4294967295 = 2 ^ 32 - 1 from rfl, Nat.and_two_pow_sub_one_eq_mod, Nat.mod_eq_of_lt (by omega)]
  rw [h1, h2, BitVec.toNat_or, BitVec.toNat_shiftLeft, BitVec.toNat_ofNat, BitVec.toNat_ofNat, BitVec.toNat_ofNat, Nat.mod_eq_of_lt (show R < 2 ^ 64 by omega), Nat.mod_eq_of_lt (show t < 2 ^ 64 by omega), Nat.mod_eq_of_lt (show R + t * 65536 < 2 ^ 64 by omega)]
  show R ||| (t <<< 16 % 2 ^ 64) = R + t * 65536
  rw [Nat.shiftLeft_eq, Nat.mod_eq_of_lt (by omega), Nat.or_comm, Nat.mul_comm t, ← Nat.two_pow_add_eq_or_of_lt (i := 16) (by omega) t]
  omega
theorem iencode_c (w : World) (g : Gv) (hg : g.At w w.heap.size) (hs : g.Small) : Calls Try.prog 27 #[g.v] w (EncX g w) := by
  have HCk := Lib.hid (fun W (b : Below w.heap.size w W) => check_c W g (hg.up b) hs)
  have HNd0 := fun W (b : Below w.heap.size w W) => ineed_c W g (hg.up b) hs
  obtain ⟨E, hE⟩ : ∃ E, E = EncX g w := ⟨_, rfl⟩
  have HE := Lib.hid hE
  have HG := Lib.hid (And.intro hg hs)
  obtain ⟨er, her⟩ : ∃ er, er = ckG g := ⟨_, rfl⟩
  have HEr := Lib.hid her
  rw [← her] at HCk
  obtain ⟨need, hnd⟩ : ∃ nd, nd = endL g.n (2 + 5 * g.r.length) := ⟨_, rfl⟩
  have HNd := Lib.hid (fun (h0 : ckG g = 0) W (b : Below w.heap.size w W) => show Calls Try.prog 58 #[g.v] W (RetP (.int .i64 (need : Int)) W) from by
    have h1 := wordsL_end g.n (fun x hx => ((ckG_ok h0).1 x hx).2)
    have h2 := HNd0 W b
    rw [h1, show ((2 + 5 * g.r.length : Nat) : Int) + (endL g.n 0 : Int) = (need : Int) from by rw [hnd, endL_add g.n (2 + 5 * g.r.length)]; omega] at h2
    exact h2)
  have HNn := Lib.hid hnd
  rw [← hE]
  obtain ⟨A, ca, A2, ca2, ns, rs⟩ := g
  obtain ⟨N, hN⟩ : ∃ N, N = ns.length := ⟨_, rfl⟩
  obtain ⟨M, hM⟩ : ∃ M, M = rs.length := ⟨_, rfl⟩
  have HN := Lib.hid (And.intro hN hM)
  have NI : (N : Int) ≤ 1000000 := by rw [hN]; exact Int.ofNat_le.2 hs.1
  have MI : (M : Int) ≤ 1000000 := by rw [hM]; exact Int.ofNat_le.2 hs.2.1
  unfold Gv.v Gv.vn Gv.vr at HCk HNd ⊢
  simp only at HCk HNd ⊢
  rw [← hN, ← hM] at HCk HNd ⊢
  clear hg hs hE her hnd hN hM HNd0
  go_enter Try.func27, Try.ntmps27
  go_wp2_with fail
  obtain ⟨G, hG⟩ : ∃ G, G = w.heap.size := ⟨_, rfl⟩
  obtain ⟨w1, hw1⟩ : ∃ W, W = w.alloc (.cells #[.slice A N ca, .slice A2 M ca2] 29) := ⟨_, rfl⟩
  have hbk : Bk w1 G 29 #[.slice A N ca, .slice A2 M ca2] := by rw [hw1, hG]; exact Bk.new w _ _
  have b1 : Below w.heap.size w w1 := by rw [hw1]; exact Gw.alloc w _
  rw [← hw1, ← hG]
  have H1 := Lib.hid (And.intro hbk b1)
  clear hw1 hG hbk b1
  refine Calls.mono (HCk.out w1 H1.out.2) ?_
  rintro r w2 ⟨rfl, b2⟩
  have H2 := Lib.hid (And.intro (H1.out.1.below b2 H1.out.1.lt) (H1.out.2.trans (b2.mono H1.out.2.size)))
  obtain ⟨g0, g1⟩ := H2.out.1.two
  have hGl := H2.out.1.lt
  clear b2
  by_cases he : er = 0
  · subst he
    go_wp2_with fail
    refine Calls.mono (HNd.out HEr.out.symm w2 H2.out.2) ?_
    rintro r w3 ⟨rfl, b3⟩
    have H3 := Lib.hid (And.intro (H2.out.1.below b3 H2.out.1.lt) (H2.out.2.trans (b3.mono H2.out.2.size)))
    clear b3 g0 g1 hGl
    obtain ⟨g0, g1⟩ := H3.out.1.two
    have hGl := H3.out.1.lt
    by_cases hlong : 8192 < need
    · have t1 : (8192 : Int) < (need : Int) := by omega
      have e3 : errG ⟨A, ca, A2, ca2, ns, rs⟩ = 3 := by
        unfold errG
        rw [if_pos HEr.out.symm, if_pos (by show 8192 < endL ns (2 + 5 * rs.length); have h5 : need = endL ns (2 + 5 * rs.length) := HNn.out; omega)]
      have HE3 := Lib.hid e3
      clear e3
      go_wp2_with fail
      rw [HE.out]
      exact .inl ⟨by rw [HE3.out]; decide, by rw [HE3.out]; rfl, H3.out.2⟩
    · have t1 : ¬ (8192 : Int) < (need : Int) := by omega
      have t2 : (need : Int) ≤ 8192 := by omega
      have hck := ckG_ok HEr.out.symm
      simp only at hck
      have hM64 : M ≤ 64 := by rw [HN.out.2]; exact hck.2.1
      have MJ : (M : Int) ≤ 64 := by omega
      obtain ⟨b, hb⟩ : ∃ b, b = 2 + 5 * M := ⟨_, rfl⟩
      have hneed : need = endL ns b := by rw [hb, HN.out.2]; exact HNn.out
      have hbn : b ≤ need := by rw [hneed]; exact endL_ge ns b
      have HBs := Lib.hid (fun W => ibase_c M (by omega) W)
      rw [← hb] at HBs
      have HD := Lib.hid (And.intro hck (And.intro hM64 (And.intro hb (And.intro hneed (And.intro hbn (show need ≤ 8192 by omega))))))
      have HNw := Lib.hid (new_in w3 need (by omega))
      clear hck hM64 hb hneed hbn hlong HCk HNd
      go_wp2_with fail
      refine Calls.mono HNw.out ?_
      rintro r w4 ⟨m, v, rfl, hm, b4⟩
      have H4 := Lib.hid (And.intro hm (And.intro b4 (H3.out.1.below b4 H3.out.1.lt)))
      clear hm b4 g0 g1 hGl HNw
      obtain ⟨g0, g1⟩ := H4.out.2.2.two
      have hGl := H4.out.2.2.lt
      go_wp2_with fail
      refine Calls.mono (HBs.out w4) ?_
      rintro r w5 ⟨rfl, b5⟩
      have H5 := Lib.hid (And.intro (H4.out.1.below b5) (And.intro (H4.out.2.1.trans (b5.mono H4.out.2.1.size)) (H4.out.2.2.below b5 H4.out.2.2.lt)))
      clear b5 g0 g1 hGl H4
      have HSn := Lib.hid (snew_in w5 w3.heap.size m v (List.replicate need 0#64) b need H5.out.1 HD.out.2.2.2.2.1 (by rw [List.length_replicate]; exact Nat.le_refl _) (by rw [List.length_replicate]; have := HD.out.2.2.2.2.2; omega))
      go_wp2_with fail
      refine Calls.mono HSn.out ?_
      rintro r w6 ⟨s, rfl, sp6, b6⟩
      have H6 := Lib.hid (And.intro sp6 (And.intro (H5.out.2.1.trans (b6.mono H5.out.2.1.size)) (H5.out.2.2.below b6 H5.out.2.2.lt)))
      clear sp6 b6 HSn H5
      obtain ⟨g0, g1⟩ := H6.out.2.2.two
      have hGl := H6.out.2.2.lt
      have HPn := Lib.hid (putNodes_c w6 w3.heap.size s m v ns b need ca A H6.out.1 HD.out.2.2.2.1 HD.out.2.2.2.2.2 ((HG.out.1.n.below (H3.out.2.trans (H6.out.2.1.mono H3.out.2.size))).more H3.out.2.size) HD.out.1.1)
      rw [← HN.out.1] at HPn
      go_wp2_with fail
      refine Calls.mono HPn.out ?_
      rintro r w7 ⟨pv, rfl, p7, b7⟩
      obtain ⟨S, hS⟩ : ∃ S, S = w6.heap.size := ⟨_, rfl⟩
      rw [← hS] at p7
      obtain ⟨qb, cq, eo, hqS⟩ := ow_iV_some (x := -1) (l := (placeL ns b).map (fun a : Nat => (a : Int))) p7.row
      rw [List.length_map, placeL_len] at eo
      subst eo
      have H7 := Lib.hid (And.intro p7 (And.intro (H6.out.2.1.trans b7) (H6.out.2.2.below b7 (Nat.lt_of_lt_of_le H3.out.1.lt (Nat.le_refl _)))))
      clear p7 b7 g0 g1 hGl hqS hS HPn
      obtain ⟨ws, hws⟩ : ∃ ws, ws = List.replicate b 0#64 ++ ns.flatMap (nodeW (placeL ns b)) := ⟨_, rfl⟩
      have hwl : ws.length = need := by
        rw [hws, List.length_append, List.length_replicate, nodesW_len]
        exact HD.out.2.2.2.1.symm
      rw [← hws] at H7
      have hwl2 : (ws.set 0 1296125772#64).length = need := by rw [List.length_set]; exact hwl
      have hn2 : 2 ≤ need := by have := HD.out.2.2.2.2.1; have := HD.out.2.2.1; omega
      have HSt0 := Lib.hid (fun W (mm : MemAt W w3.heap.size m v ws) => show Calls Try.prog 62 #[.pointer (some ⟨m, 0, none⟩), .int .i64 0, .int .u64 1296125772] W (fun e w' => e = .returned (.int .i64 0) ∧ MemAt w' w3.heap.size m v (ws.set 0 1296125772#64) ∧ W.grownBy w' v.ownBlock) from set_in W w3.heap.size m v ws 0 1296125772#64 (by omega) (by have := HD.out.2.2.2.2.2; omega) mm)
      obtain ⟨fr, hfr⟩ : ∃ fr, fr = BitVec.ofNat 64 (M + need * 65536) := ⟨_, rfl⟩
      have HSt1 := Lib.hid (fun W (mm : MemAt W w3.heap.size m v (ws.set 0 1296125772#64)) => show Calls Try.prog 62 #[.pointer (some ⟨m, 0, none⟩), .int .i64 1, .int .u64 (U64 fr)] W (fun e w' => e = .returned (.int .i64 0) ∧ MemAt w' w3.heap.size m v ((ws.set 0 1296125772#64).set 1 fr) ∧ W.grownBy w' v.ownBlock) from set_in W w3.heap.size m v (ws.set 0 1296125772#64) 1 fr (by omega) (by have := HD.out.2.2.2.2.2; omega) mm)
      have HWi := Lib.hid (fun W => show Ans Try.prog 63 #[.int .u64 (M : Int), .int .i64 16, .int .i64 32, .int .u64 (need : Int)] W (.int .u64 (U64 fr)) from by
        have h := with_c (BitVec.ofNat 64 M) 16 32 (BitVec.ofNat 64 need) W
        rw [with_front M need HD.out.2.1 HD.out.2.2.2.2.2, ← hfr, ofNat_U64 M (by have := HD.out.2.1; omega), ofNat_U64 need (by have := HD.out.2.2.2.2.2; omega)] at h
        exact h)
      have hro := roots_none (placeL ns b) rs 1296125772#64 fr (ns.flatMap (nodeW (placeL ns b)))
      rw [← HN.out.2, ← HD.out.2.2.1, ← hws] at hro
      have HRo := Lib.hid (And.intro hro (And.intro hfr hwl))
      clear hws hwl hwl2 hn2 hfr hro H6
      go_wp2_with fail
      refine Calls.mono (HSt0.out w7 H7.out.1.sp.mem) ?_
      rintro r w8 ⟨rfl, m8, g8⟩
      have H8 := Lib.hid (show PuAt w8 w3.heap.size s m v (ws.set 0 1296125772#64) b need need S (.slice (some ⟨qb, 0, none⟩) (ns.length + 1) cq) (plI ns b) ∧ Below w3.heap.size w3 w8 from
        ⟨H7.out.1.two (H7.out.1.sp.memTo m8 g8 List.length_set) (Two.grown g8), H7.out.2.1.trans (H7.out.1.sp.mem.own g8)⟩)
      clear m8 g8 H7 HSt0
      have hb8 := H3.out.1.below H8.out.2 H3.out.1.lt
      obtain ⟨g0, g1⟩ := hb8.two
      have hGl := hb8.lt
      clear hb8
      go_wp2_with fail
      refine Calls.mono (HWi.out w8) ?_
      rintro r w9 ⟨rfl, hb9⟩
      have H9 := Lib.hid (show PuAt w9 w3.heap.size s m v (ws.set 0 1296125772#64) b need need S (.slice (some ⟨qb, 0, none⟩) (ns.length + 1) cq) (plI ns b) ∧ Below w3.heap.size w3 w9 from
        ⟨H8.out.1.below (hb9.below _), H8.out.2.trans (hb9.below _)⟩)
      clear hb9 H8 HWi g0 g1 hGl
      go_wp2_with fail
      refine Calls.mono (HSt1.out w9 H9.out.1.sp.mem) ?_
      rintro r w10 ⟨rfl, m10, g10⟩
      have HS0 : Hid (PuAt w10 w3.heap.size s m v (rootsW (placeL ns b) (frontW M need) rs 0 M (ns.flatMap (nodeW (placeL ns b)))) b need need S (.slice (some ⟨qb, 0, none⟩) (ns.length + 1) cq) (plI ns b) ∧ Below w3.heap.size w3 w10) := Lib.hid
        ⟨H9.out.1.two (by
          have h1 := H9.out.1.sp.memTo m10 g10 List.length_set
          rw [HRo.out.1, HRo.out.2.1] at h1
          exact h1) (Two.grown g10), H9.out.2.trans (H9.out.1.sp.mem.own g10)⟩
      clear m10 g10 H9 HSt1
      have hb10 := H3.out.1.below HS0.out.2 H3.out.1.lt
      obtain ⟨g0, g1⟩ := hb10.two
      have hGl := hb10.lt
      clear hb10
      go_wp2_with fail
      clear g0 g1 hGl
      go_loopw [67] (fun x W => ∃ j : Nat, x = .int .i64 j ∧ j ≤ M ∧ Hid (PuAt W w3.heap.size s m v (rootsW (placeL ns b) (frontW M need) rs j M (ns.flatMap (nodeW (placeL ns b)))) b need need S (.slice (some ⟨qb, 0, none⟩) (ns.length + 1) cq) (plI ns b) ∧ Below w3.heap.size w3 W)) (fun x _ => M - (Go.RowKit.intOf x).toNat)
      case atStart => exact ⟨0, rfl, Nat.zero_le _, HS0⟩
      case round =>
        obtain ⟨j, rfl, hj, hS⟩ := hrel
        clear HS0
        have p0 : (0 : Int) ≤ (j : Int) := by omega
        obtain ⟨e1, e2⟩ := hS.out
        have hww : Below w.heap.size w wr := H3.out.2.trans (e2.mono H3.out.2.size)
        by_cases hlt : j < M
        · have p1 : (j : Int) < (M : Int) := by omega
          have hjl : j < rs.length := by rw [← HN.out.2]; exact hlt
          obtain ⟨x, hx⟩ : ∃ x, x = rs[j] := ⟨_, rfl⟩
          obtain ⟨ad, rfl, hc2, hc3⟩ : ∃ ad, A2 = some ad ∧ wr.cell? (ad.add (j * 2)) = some (.string x.s) ∧ wr.cell? ⟨(ad.add (j * 2)).block, (ad.add (j * 2)).off + 1, none⟩ = some (.int .i64 x.t) := by
            obtain ⟨ad, e, _, h1, h2⟩ := (HG.out.1.r.below hww) j hjl
            exact ⟨ad, e, by rw [hx]; exact h1, by rw [hx]; exact h2⟩
          obtain ⟨x1, x2⟩ := HD.out.1.2.2 x (by rw [hx]; exact List.getElem_mem hjl)
          obtain ⟨a, ha⟩ : ∃ a, a = 2 + 5 * j := ⟨_, rfl⟩
          have hlen := rootsW_len (placeL ns b) (frontW M need) rs j (ns.flatMap (nodeW (placeL ns b))) (fun r hr => (goodS_size (HD.out.1.2.2 r hr).1).2) rfl (by omega)
          have hnl := nodesW_len (placeL ns b) ns b
          have hln : (rootsW (placeL ns b) (frontW M need) rs j M (ns.flatMap (nodeW (placeL ns b)))).length = need := by
            rw [HN.out.2] at *
            rw [hlen, ← HD.out.2.2.1, hnl]
            exact HD.out.2.2.2.1.symm
          have hst := root_step (placeL ns b) (frontW M need) (ns.flatMap (nodeW (placeL ns b))) rs j a hjl (fun r hr => (goodS_size (HD.out.1.2.2 r hr).1).2) rfl ha
          rw [← HN.out.2, ← hx] at hst
          have HPr := Lib.hid (fun W (q : PuAt W w3.heap.size s m v (rootsW (placeL ns b) (frontW M need) rs j M (ns.flatMap (nodeW (placeL ns b)))) b need need S (.slice (some ⟨qb, 0, none⟩) (ns.length + 1) cq) (plI ns b)) => putRoot_c W w3.heap.size s m S b need need a b qb cq v _ ns q x x1 x2 (by have := HD.out.2.2.2.1; have := HD.out.2.2.2.2.2; omega) (by rw [hln]; have := HD.out.2.2.2.2.1; have := HD.out.2.2.1; omega) (by rw [hln]; exact HD.out.2.2.2.2.2))
          rw [hst] at HPr
          have HBj := Lib.hid (fun W => ibase_c j (by have := HD.out.2.1; omega) W)
          rw [← ha] at HBj
          obtain ⟨st, to⟩ := x
          unfold Rv.v at HPr
          simp only at hc2 hc3 HPr
          have H0 := Lib.hid (And.intro e1 e2)
          obtain ⟨NN, hNN⟩ : ∃ NN, NN = ns.length + 1 := ⟨_, rfl⟩
          rw [← hNN] at HPr H0 ⊢
          clear hx e1 e2 hS x1 x2 hlen hnl hln hst hww hj ha hjl
          go_wp2_with fail
          obtain ⟨Rb, hRb⟩ : ∃ R, R = wr.heap.size := ⟨_, rfl⟩
          obtain ⟨w12, hw12⟩ : ∃ W, W = wr.alloc (.cells #[.string st, .int .i64 to] 99) := ⟨_, rfl⟩
          have hbk : Bk w12 Rb 99 #[.string st, .int .i64 to] := by rw [hw12, hRb]; exact Bk.new wr _ _
          have b12 : Below wr.heap.size wr w12 := by rw [hw12]; exact Gw.alloc wr _
          rw [← hw12, ← hRb]
          have H12 := Lib.hid (show PuAt w12 w3.heap.size s m v (rootsW (placeL ns b) (frontW M need) rs j M (ns.flatMap (nodeW (placeL ns b)))) b need need S (.slice (some ⟨qb, 0, none⟩) NN cq) (plI ns b) ∧ Below w3.heap.size w3 w12 from ⟨H0.out.1.below b12, H0.out.2.trans (b12.mono H0.out.1.sp.mem.le)⟩)
          have hRn : ¬ (Rb = s ∨ some Rb = v.ownBlock) := by
            rintro (h | h)
            · have h1 := H0.out.1.sp.blk.lt; omega
            · have h1 := (H0.out.1.sp.mem.row.lt Rb h.symm).2; omega
          obtain ⟨c0, c1⟩ := hbk.two
          have hRl := hbk.lt
          clear hbk b12 hw12 hRb hc2 hc3
          refine ien21 _ _ _ m Rb j a st to qb NN cq (fun k => k = s ∨ some k = v.ownBlock) (fun z => PuAt z w3.heap.size s m v (rootsW (placeL ns b) (frontW M need) rs (j + 1) M (ns.flatMap (nodeW (placeL ns b)))) b need need S (.slice (some ⟨qb, 0, none⟩) NN cq) (plI ns b) ∧ Below w3.heap.size w3 z) hRl hRn c0 c1 HBj (fun _ _ h g => ⟨h.1.below g, h.2.trans (g.mono h.1.sp.mem.le)⟩) (Lib.hid (fun W b => (HPr.out W (H12.out.1.below b)).mono fun r' w' h => ⟨_, h.1, im_twokept h.2.2.2, rfl, h.2.1, (H12.out.2.trans (b.mono H12.out.1.sp.mem.le)).trans h.2.2.1⟩)) rfl ?_ ?_ ?_ ?_ ?_
          · rfl
          · rfl
          · rfl
          · rfl
          intro vals w13 hG h12 hcall
          unfold IsV at h12
          simp only [putO, Act.put, List.setIfInBounds_toArray, List.set_cons_zero, List.set_cons_succ, h12]
          have HN13 := Lib.hid hcall.2
          clear hG h12 hcall c0 c1 hRl hRn H12 H0 HPr HBj
          go_wp2_with fail
          go_roundw
          case rel => exact ⟨j + 1, by go_num, by omega, HN13⟩
          case measure => simp [Go.RowKit.intOf]; omega
        · have p1 : ¬ (j : Int) < (M : Int) := by omega
          have hjM : j = rs.length := by have := HN.out.2; omega
          have hra := roots_all (placeL ns b) ns rs need (by have h := HD.out.2.2.2.1; rw [HD.out.2.2.1, HN.out.2] at h; exact h) (by rw [HD.out.2.2.1, HN.out.2])
          rw [hjM, HN.out.2, hra] at e1
          have HWd := Lib.hid (words_c wr w3.heap.size m v (encW ns rs) e1.sp.mem (by have h1 := e1.sp.te; have h2 := hra; have := encW_len ns rs (fun r hr => (goodS_size (HD.out.1.2.2 r hr).1).2); have h5 : need = endL ns (2 + 5 * rs.length) := HNn.out; have := HD.out.2.2.2.2.2; omega))
          have HF := Lib.hid hww
          clear e1 e2 hS hj hjM hra hww
          go_wp2_with fail
          refine Calls.mono HWd.out ?_
          rintro r w14 ⟨A14, c14, rfl, hc14, ho14, b14⟩
          have H14 := Lib.hid (And.intro ho14 b14)
          clear ho14 b14 hc14
          go_wp2_with fail
          rw [HE.out]
          exact .inr ⟨HEr.out.symm, by have h5 : need = endL ns (2 + 5 * rs.length) := HNn.out; have := HD.out.2.2.2.2.2; show endL ns (2 + 5 * rs.length) ≤ 8192; omega, _, rfl, H14.out.1.mono HF.out.size, HF.out.trans (H14.out.2.mono HF.out.size)⟩
  · have e1 : (er != 0) = true := by simpa using he
    have HEn := Lib.hid he
    clear he
    have e3 : errG ⟨A, ca, A2, ca2, ns, rs⟩ = er := by
      unfold errG
      rw [if_neg (by rw [← HEr.out]; exact HEn.out), ← HEr.out]
    have HE3 := Lib.hid e3
    clear e3
    go_wp2_with fail
    rw [HE.out]
    exact .inl ⟨by rw [HE3.out]; exact HEn.out, by rw [HE3.out]; rfl, H2.out.2⟩
end Go.Proofs.Ytaminpfgkegibaa
/- slices.Equal at numbers and roots. Conditions: lengths. -/
namespace Go.Proofs.Ytaminpfgkegibaa
set_option linter.unusedVariables false
set_option linter.unusedSimpArgs false
open Go.RowKit
set_option maxHeartbeats 1000000
set_option maxRecDepth 100000
theorem take_eq_succ {α : Type} {xs ys : List α} {k : Nat} (h1 : k < xs.length) (h2 : k < ys.length) (h : xs.take k = ys.take k) (e : xs[k] = ys[k]) : xs.take (k + 1) = ys.take (k + 1) := by
  rw [List.take_succ_eq_append_getElem h1, List.take_succ_eq_append_getElem h2, h, e]
end Go.Proofs.Ytaminpfgkegibaa
/- slices.Equal at words; loamlaw23.words. Conditions: lengths. -/
namespace Go.Proofs.Ytaminpfgkegibaa
set_option linter.unusedVariables false
set_option linter.unusedSimpArgs false
open Go.RowKit
set_option maxHeartbeats 1000000
set_option maxRecDepth 100000
theorem equ_r (Q : Exit → Act → World → Prop) (a0 : Act) (w : World) (a b : Addr) (N c c2 i : Nat) (x y : BitVec 64) (r : Bool) (ha : a.block < w.heap.size) (hb : b.block < w.heap.size) (h1 : w.cell? (a.add i) = some (.int .u64 (U64 x))) (h2 : w.cell? (b.add i) = some (.int .u64 (U64 y))) (hr : (U64 x != U64 y) = r) (p1 : (0 : Int) ≤ (i : Int)) (p2 : (i : Int) < (N : Int)) (hsz : a0.tmps.size = 26) (sl0 : a0.tmps.getD 0 undef = .slice (some a) N c) (sl1 : a0.tmps.getD 1 undef = .slice (some b) N c2) (sl5 : a0.tmps.getD 5 undef = .int .i64 i)
    (fin : ∀ (vals : Nat → Value) (w1 : World), Below w.heap.size w w1 → (IsV (.bool r)) (vals 8) w1 → Q .normal (putD vals [16, 17, 18, 19, 20, 21, 22, 23, 24] 0 a0) w1) :
    (Code.region 6 (regIn Try.f28 6) true).wp Try.prog Q a0 w := by
  refine region_by (G := fun w w1 => Below w.heap.size w w1) [IsV (.slice (some a) N c),
    IsV (.int .i64 i),
    IsV (.pointer (some (a.add i))),
    IsV (.int .u64 (U64 x)),
    IsV (.slice (some b) N c2),
    IsV (.int .i64 i),
    IsV (.pointer (some (b.add i))),
    IsV (.int .u64 (U64 y)),
    IsV (.bool r)]
    [16, 17, 18, 19, 20, 21, 22, 23, 24] (by kernel_rfl) (Gw.drew _) Gw.trans (by rw [hsz]; kernel_rfl) (by kernel_rfl) ?_ ?_ ?_
  · intro f hf
    simp only [List.mem_cons, List.not_mem_nil, or_false] at hf
    rcases hf with rfl | rfl | rfl | rfl | rfl | rfl | rfl | rfl | rfl <;> intro v a b h g <;> first | exact IsV.mono h
  · refine ⟨?_, ?_, ?_, ?_, ?_, ?_, ?_, ?_, ?_, trivial⟩
    · exact owes_mv 0 (by kernel_rfl) (by kernel_rfl) (by kernel_rfl) sl0 (fun _ => rfl)
    · exact owes_mv 5 (by kernel_rfl) (by kernel_rfl) (by kernel_rfl) sl5 (fun _ => rfl)
    · refine owes_v (Go.Op.indexAddr 22 (Go.Operand.tmp 16) (Go.Operand.tmp 17)) 0 [0, 1] (by kernel_rfl) (by kernel_rfl) (by kernel_rfl) rfl fun vals w1 ρ hG hF hρ hcst hfun => ?_
      have e16 : ρ (.tmp 16) = .slice (some a) N c := ((hρ 16).trans (slotJ [0, 1] (by rw [hsz]; decide) (by kernel_rfl))).trans (hF 0 (by decide))
      have e17 : ρ (.tmp 17) = .int .i64 i := ((hρ 17).trans (slotJ [0, 1] (by rw [hsz]; decide) (by kernel_rfl))).trans (hF 1 (by decide))
      clear hρ hF hcst hfun sl0 sl1 sl5 fin
      exact opv_val (by go_simp <;> rfl) ⟨gw_self _, rfl⟩
    · refine owes_v (Go.Op.load 57 (Go.Operand.tmp 18)) 57 [2] (by kernel_rfl) (by kernel_rfl) (by kernel_rfl) rfl fun vals w1 ρ hG hF hρ hcst hfun => ?_
      have e18 : ρ (.tmp 18) = .pointer (some (a.add i)) := ((hρ 18).trans (slotJ [2] (by rw [hsz]; decide) (by kernel_rfl))).trans (hF 2 (by decide))
      have k := (hG.cell (p := a.add i) (by rw [add_block]; exact ha)).trans h1
      clear hρ hF hcst hfun sl0 sl1 sl5 fin
      exact opv_val (by go_simp <;> rfl) ⟨gw_self _, rfl⟩
    · exact owes_mv 1 (by kernel_rfl) (by kernel_rfl) (by kernel_rfl) sl1 (fun _ => rfl)
    · exact owes_mv 5 (by kernel_rfl) (by kernel_rfl) (by kernel_rfl) sl5 (fun _ => rfl)
    · refine owes_v (Go.Op.indexAddr 22 (Go.Operand.tmp 20) (Go.Operand.tmp 21)) 0 [4, 5] (by kernel_rfl) (by kernel_rfl) (by kernel_rfl) rfl fun vals w1 ρ hG hF hρ hcst hfun => ?_
      have e20 : ρ (.tmp 20) = .slice (some b) N c2 := ((hρ 20).trans (slotJ [4, 5] (by rw [hsz]; decide) (by kernel_rfl))).trans (hF 4 (by decide))
      have e21 : ρ (.tmp 21) = .int .i64 i := ((hρ 21).trans (slotJ [4, 5] (by rw [hsz]; decide) (by kernel_rfl))).trans (hF 5 (by decide))
      clear hρ hF hcst hfun sl0 sl1 sl5 fin
      exact opv_val (by go_simp <;> rfl) ⟨gw_self _, rfl⟩
    · refine owes_v (Go.Op.load 57 (Go.Operand.tmp 22)) 57 [6] (by kernel_rfl) (by kernel_rfl) (by kernel_rfl) rfl fun vals w1 ρ hG hF hρ hcst hfun => ?_
      have e22 : ρ (.tmp 22) = .pointer (some (b.add i)) := ((hρ 22).trans (slotJ [6] (by rw [hsz]; decide) (by kernel_rfl))).trans (hF 6 (by decide))
      have k := (hG.cell (p := b.add i) (by rw [add_block]; exact hb)).trans h2
      clear hρ hF hcst hfun sl0 sl1 sl5 fin
      exact opv_val (by go_simp <;> rfl) ⟨gw_self _, rfl⟩
    · refine owes_v (Go.Op.binOp Go.BinOp.neq 57 (Go.Operand.tmp 19) (Go.Operand.tmp 23) 57) 4 [3, 7] (by kernel_rfl) (by kernel_rfl) (by kernel_rfl) rfl fun vals w1 ρ hG hF hρ hcst hfun => ?_
      have e19 : ρ (.tmp 19) = .int .u64 (U64 x) := ((hρ 19).trans (slotJ [3, 7] (by rw [hsz]; decide) (by kernel_rfl))).trans (hF 3 (by decide))
      have e23 : ρ (.tmp 23) = .int .u64 (U64 y) := ((hρ 23).trans (slotJ [3, 7] (by rw [hsz]; decide) (by kernel_rfl))).trans (hF 7 (by decide))
      clear hρ hF hcst hfun sl0 sl1 sl5 fin
      exact opv_val (by go_simp <;> first | rfl | exact hr | rw [hr]) ⟨gw_self _, rfl⟩
  · intro vals w1 hG hF
    exact fin vals w1 hG (hF 8 (by decide +kernel))
theorem equ_c (w : World) (A A2 : Option Addr) (c c2 : Nat) (xs ys : List (BitVec 64)) (hr : Rd u64v w w.heap.size A xs) (hr2 : Rd u64v w w.heap.size A2 ys) (hl : xs.length ≤ 1000000) : Calls Try.prog 28 #[.slice A xs.length c, .slice A2 ys.length c2] w (RetP (.bool (decide (xs = ys))) w) := by
  obtain ⟨N, hN⟩ : ∃ N, N = xs.length := ⟨_, rfl⟩
  obtain ⟨M, hM⟩ : ∃ M, M = ys.length := ⟨_, rfl⟩
  have HN := Lib.hid (And.intro hN hM)
  have HR := Lib.hid hr
  have HR2 := Lib.hid hr2
  have q3 : (N : Int) ≤ 1000000 := by omega
  rw [← hN, ← hM]
  by_cases he : N = M
  · subst he
    have HNe := Lib.hid (And.intro hN hM)
    clear hN hM hr hr2 hl HN
    obtain ⟨R, hRR⟩ : ∃ R, R = decide (xs = ys) := ⟨_, rfl⟩
    have HRR := Lib.hid hRR
    rw [← hRR]
    clear hRR
    go_enter Try.func28, Try.ntmps28
    go_wp2_with fail
    go_loopw [13] (fun i wr => ∃ k : Nat, k ≤ N ∧ i = .int .i64 k ∧ Hid (xs.take k = ys.take k) ∧ Below w.heap.size w wr) (fun i _ => N - (Go.RowKit.intOf i).toNat)
    case atStart => exact ⟨0, by omega, rfl, Lib.hid rfl, Below.refl _ _⟩
    case round =>
      obtain ⟨k, hk, rfl, ht, hB⟩ := hrel
      by_cases hlt : k < N
      · have p1 : (0 : Int) ≤ (k : Int) := by omega
        have p2 : (k : Int) < (N : Int) := by omega
        have h1 : k < xs.length := by rw [← HNe.out.1]; exact hlt
        have h2 : k < ys.length := by rw [← HNe.out.2]; exact hlt
        obtain ⟨ad, rfl, hadb, hcl⟩ := (HR.out.below hB) k h1
        obtain ⟨ad2, rfl, hadb2, hcl2⟩ := (HR2.out.below hB) k h2
        obtain ⟨x, hx⟩ : ∃ y, y = xs[k] := ⟨_, rfl⟩
        obtain ⟨y, hy⟩ : ∃ y, y = ys[k] := ⟨_, rfl⟩
        rw [← hx] at hcl
        rw [← hy] at hcl2
        unfold u64v at hcl hcl2
        have hsz := hB.size
        have HS := Lib.hid (fun Q a0 r hr => equ_r Q a0 wr ad ad2 N c c2 k x y r (by omega) (by omega) hcl hcl2 hr p1 p2)
        by_cases hxy : x = y
        · have hrf : (U64 x != U64 y) = false := by rw [hxy]; simp
          have HT := Lib.hid (take_eq_succ h1 h2 ht.out (by rw [← hx, ← hy, hxy]))
          clear hx hy hadb hadb2 hcl hcl2 h1 h2 hsz hxy
          go_wp2_with fail
          refine HS.out _ _ false hrf rfl rfl rfl rfl ?_
          intro vals w4 hG h24
          unfold IsV at h24
          simp only [putD, Act.put, List.setIfInBounds_toArray, List.set_cons_zero, List.set_cons_succ, h24]
          have HB4 := Lib.hid (hB.trans (hG.mono hB.size))
          clear h24 hG HS hrf
          go_wp2_with fail
          go_roundw
          case rel => exact ⟨k + 1, by omega, by go_num, HT, HB4.out⟩
          case measure => (first | (simp [Go.RowKit.intOf]; done) | (simp [Go.RowKit.intOf]; omega))
        · have hrf : (U64 x != U64 y) = true := by rw [bne_iff_ne]; exact fun e => hxy (U64_inj e)
          have hne : R = false := by
            rw [HRR.out, decide_eq_false_iff_not]
            intro e
            subst e
            exact hxy (hx.trans hy.symm)
          have HNE := Lib.hid hne
          clear hx hy hadb hadb2 hcl hcl2 h1 h2 hsz hxy hne
          go_wp2_with fail
          refine HS.out _ _ true hrf rfl rfl rfl rfl ?_
          intro vals w4 hG h24
          unfold IsV at h24
          simp only [putD, Act.put, List.setIfInBounds_toArray, List.set_cons_zero, List.set_cons_succ, h24]
          have HB4 := Lib.hid (hB.trans (hG.mono hB.size))
          clear h24 hG HS hrf
          go_wp2_with fail
          go_ret
          rw [HNE.out]
          exact ⟨rfl, HB4.out⟩
      · have hre : R = true := by
          rw [HRR.out, decide_eq_true_iff]
          have := ht.out
          rwa [show k = xs.length by rw [← HNe.out.1]; omega, List.take_length, show xs.length = ys.length by rw [← HNe.out.1, HNe.out.2], List.take_length] at this
        have HRE := Lib.hid hre
        clear hre
        go_wp2_with fail
        go_ret
        rw [HRE.out]
        exact ⟨rfl, hB⟩
  · have hne : decide (xs = ys) = false := by
      rw [decide_eq_false_iff_not]
      intro e
      exact he (by rw [hN, hM, e])
    rw [hne]
    have t1 : ((N : Int) != (M : Int)) = true := by simp; omega
    clear hN hM hr hr2 hl he hne HN HR HR2
    go_enter Try.func28, Try.ntmps28
    go_wp2_with fail
    go_ret
    exact ⟨rfl, Below.refl _ _⟩
end Go.Proofs.Ytaminpfgkegibaa
/- image.Decode. Conditions: at most 8192 words. -/
namespace Go.Proofs.Ytaminpfgkegibaa
set_option linter.unusedVariables false
set_option linter.unusedSimpArgs false
open Go.RowKit Go.Maps
set_option maxHeartbeats 8000000
set_option maxRecDepth 100000
theorem read_same {g : Gv} {ws : List (BitVec 64)} {l : List Nat} (h1 : objF ws ws.length (ws.length + 1) (2 + 5 * nR ws) = some l) (h2 : g.n.map normN = l.map (dNode ws l)) (h3 : g.r = (List.range (nR ws)).map (dRoot ws l)) {g' : Gv} (h : ckG g' = 0) (ht : endL g'.n (2 + 5 * g'.r.length) ≤ 8192) (e : encW g'.n g'.r = ws) : g.n.map normN = g'.n.map normN ∧ g.r = g'.r := by
  obtain ⟨r1, r2, r3, r4, r5⟩ := enc_read h ht
  obtain ⟨d1, d2⟩ := dec_enc h ht
  rw [e] at r2 r4 d1 d2
  rw [r2, r4] at h1
  injection h1 with h1
  rw [← h1] at h2 h3
  rw [r2] at h3
  exact ⟨h2.trans d1, h3.trans d2⟩
theorem normN_len {x y : Nv} (h : normN x = normN y) : x.ps.length = y.ps.length ∧ x.bs.length = y.bs.length := by
  unfold normN at h
  injection h with _ _ _ _ h1 h2
  exact ⟨by rw [h1], by rw [h2]⟩
theorem read_small {g : Gv} {ws : List (BitVec 64)} {l : List Nat} {b : Nat} (h8 : ws.length ≤ 8192) (h1 : objF ws ws.length (ws.length + 1) b = some l) (h2 : g.n.map normN = l.map (dNode ws l)) (h3 : g.r.length ≤ 100000) : g.Small := by
  have hl := objF_len _ _ _ h1
  have hn : g.n.length = l.length := by
    have h := congrArg List.length h2
    rwa [List.length_map, List.length_map] at h
  refine ⟨by omega, by omega, fun x hx => ?_⟩
  have hm : normN x ∈ l.map (dNode ws l) := by rw [← h2]; exact List.mem_map_of_mem hx
  obtain ⟨a, ha, e⟩ := List.mem_map.1 hm
  obtain ⟨_, _, hg⟩ := objF_mem _ _ _ h1 a ha
  obtain ⟨_, hP, hB, _, _, _⟩ := head_of hg
  have e2 : normN x = normN (dNode ws l a) := e.symm
  obtain ⟨l1, l2⟩ := normN_len e2
  rw [l1, l2]
  unfold dNode bytesM
  simp only [List.length_map, List.length_range]
  omega
def DecW (ws : List (BitVec 64)) (w : World) (r : Ending) (w' : World) : Prop :=
  (r = .returned (.tuple #[.agg #[.slice none 0 0, .slice none 0 0], .int .i64 2]) ∧ Below w.heap.size w w' ∧ BadW ws) ∨
  (∃ g : Gv, r = .returned (.tuple #[g.v, .int .i64 0]) ∧ g.At w' w'.heap.size ∧ ckG g = 0 ∧ endL g.n (2 + 5 * g.r.length) ≤ 8192 ∧ encW g.n g.r = ws ∧ Below w.heap.size w w' ∧ NOwn w' w.heap.size g.vn g.n ∧ ROwn w' w.heap.size g.vr g.r)
theorem decode_c (w : World) (A : Option Addr) (c : Nat) (ws : List (BitVec 64)) (hr : Rd u64v w w.heap.size A ws) (h8 : ws.length ≤ 8192) :
    Calls Try.prog 9 #[.slice A ws.length c] w (DecW ws w) := by
  obtain ⟨E, hE⟩ : ∃ E, E = DecW ws w := ⟨_, rfl⟩
  rw [← hE]
  have HE := Lib.hid hE
  have HRe := Lib.hid (fun W (b : Below w.heap.size w W) => read_c W A c ws ((hr.below b).more b.size) h8)
  have HX := Lib.hid (And.intro hr h8)
  obtain ⟨n, hn⟩ : ∃ n, n = ws.length := ⟨_, rfl⟩
  rw [← hn] at HRe ⊢
  have HN := Lib.hid hn
  clear hE hr h8 hn
  go_enter Try.func9, Try.ntmps9
  go_wp2_with fail
  obtain ⟨Rb, hRb⟩ : ∃ R, R = w.heap.size := ⟨_, rfl⟩
  obtain ⟨w1, hw1⟩ : ∃ W, W = w.alloc (.cells #[.slice none 0 0, .slice none 0 0] 29) := ⟨_, rfl⟩
  have hbk : Bk w1 Rb 29 #[.slice none 0 0, .slice none 0 0] := by rw [hw1, hRb]; exact Bk.new w _ _
  have b1 : Below w.heap.size w w1 := by rw [hw1]; exact Gw.alloc w _
  rw [← hw1, ← hRb]
  have HFr := Lib.hid (Nat.le_of_eq hRb.symm)
  have H1 := Lib.hid (And.intro hbk b1)
  clear hw1 hRb hbk b1
  refine Calls.mono (HRe.out w1 H1.out.2) ?_
  rintro r w2 (⟨er, her, rfl, b2, hbad⟩ | ⟨g, l, rfl, hgat, ho, hgn, hgr, hbl, b2, hno, hro⟩)
  · have H2 := Lib.hid (show Bk w2 Rb 29 #[.slice none 0 0, .slice none 0 0] ∧ Below w.heap.size w w2 from ⟨H1.out.1.below b2 H1.out.1.lt, H1.out.2.trans (b2.mono H1.out.2.size)⟩)
    have HBad := Lib.hid hbad
    have e1 : (er != 0) = true := by simpa using her
    clear b2 H1 HRe her hbad
    obtain ⟨q0, q1⟩ := H2.out.1.two
    have hRl := H2.out.1.lt
    have hfr0 := H2.out.1.free 0
    have hfr1 := H2.out.1.free 1
    go_wp2_with fail
    obtain ⟨V, hV⟩ : ∃ V, V = (((w2.setCell ⟨Rb, 0, none⟩ (.slice none 0 0)).setCell ⟨Rb, 1, none⟩ (.slice none 0 0)).alloc (.cells #[.slice none 0 0, .slice none 0 0] 29)) := ⟨_, rfl⟩
    have kR : Bk V Rb 29 #[.slice none 0 0, .slice none 0 0] := by rw [hV]; exact (two_set H2.out.1).alloc _
    have kB : Below w.heap.size w V := by rw [hV]; have kB0 := two_below (a' := .slice none 0 0) (b' := .slice none 0 0) H2.out.2 HFr.out; exact kB0.alloc kB0.size _
    have hl := run_loadVar_row (P := Try.prog) V Rb 29 29 #[.slice none 0 0, .slice none 0 0] (0, 0) _ kR Try.underlying29 rfl (by kernel_rfl)
    rw [← hV]
    clear hV q0 q1 hRl hfr0 hfr1
    refine bodyPost_ret (res2 (p := 2) (u := 3) (by kernel_rfl) hl rfl rfl) rfl ?_
    rw [HE.out]
    exact .inl ⟨rfl, kB, HBad.out⟩
  · have hsm : g.Small := read_small HX.out.2 ho hgn (by rw [hgr, List.length_map, List.length_range]; have := HX.out.2; omega)
    have H2 := Lib.hid (show Bk w2 Rb 29 #[.slice none 0 0, .slice none 0 0] ∧ Below w.heap.size w w2 from ⟨H1.out.1.below b2 H1.out.1.lt, H1.out.2.trans (b2.mono H1.out.2.size)⟩)
    have HG := Lib.hid (And.intro hgat (And.intro ho (And.intro hgn (And.intro hgr hsm))))
    have HOw := Lib.hid (show NOwn w2 w1.heap.size g.vn g.n ∧ ROwn w2 w1.heap.size g.vr g.r ∧ Rb < w1.heap.size ∧ w.heap.size ≤ w1.heap.size from ⟨hno, hro, H1.out.1.lt, H1.out.2.size⟩)
    have HEn := Lib.hid (fun W (b : Below w2.heap.size w2 W) => iencode_c W g (hgat.up b) hsm)
    clear b2 H1 HRe hgat ho hgn hgr hbl hsm hno hro
    obtain ⟨gA, gc, gA2, gc2, gns, grs⟩ := g
    obtain ⟨gN, hgN⟩ : ∃ z, z = gns.length := ⟨_, rfl⟩
    obtain ⟨gM, hgM⟩ : ∃ z, z = grs.length := ⟨_, rfl⟩
    have HGN := Lib.hid (And.intro hgN hgM)
    unfold Gv.v Gv.vn Gv.vr at HEn ⊢
    simp only at HEn ⊢
    rw [← hgN, ← hgM] at HEn ⊢
    clear hgN hgM
    go_wp2_with fail
    obtain ⟨Gb, hGb⟩ : ∃ G, G = w2.heap.size := ⟨_, rfl⟩
    obtain ⟨w3, hw3⟩ : ∃ W, W = w2.alloc (.cells #[.slice gA gN gc, .slice gA2 gM gc2] 29) := ⟨_, rfl⟩
    have hbk : Bk w3 Gb 29 #[.slice gA gN gc, .slice gA2 gM gc2] := by rw [hw3, hGb]; exact Bk.new w2 _ _
    have b3 : Below w2.heap.size w2 w3 := by rw [hw3]; exact Gw.alloc w2 _
    rw [← hw3, ← hGb]
    have H3 := Lib.hid (show Bk w3 Gb 29 #[.slice gA gN gc, .slice gA2 gM gc2] ∧ Bk w3 Rb 29 #[.slice none 0 0, .slice none 0 0] ∧ Below w.heap.size w w3 ∧ Below w2.heap.size w2 w3 ∧ Rb ≠ Gb from
      ⟨hbk, H2.out.1.below b3 H2.out.1.lt, H2.out.2.trans (b3.mono H2.out.2.size), b3, by have := H2.out.1.lt; omega⟩)
    clear hw3 hGb hbk b3
    refine Calls.mono (HEn.out w3 H3.out.2.2.2.1) ?_
    rintro r w4 (⟨hne, rfl, b4⟩ | ⟨hck, hend, v, rfl, how, b4⟩)
    · have H4 := Lib.hid (show Bk w4 Rb 29 #[.slice none 0 0, .slice none 0 0] ∧ Below w.heap.size w w4 from ⟨H3.out.2.1.below b4 H3.out.2.1.lt, H3.out.2.2.1.trans (b4.mono H3.out.2.2.1.size)⟩)
      have HBad := Lib.hid (show BadW ws from fun g' k1 k2 e => by
        obtain ⟨s1, s2⟩ := read_same (g := ⟨gA, gc, gA2, gc2, gns, grs⟩) HG.out.2.1 HG.out.2.2.1 HG.out.2.2.2.1 k1 k2 e
        obtain ⟨_, s3, s4⟩ := enc_same (g := ⟨gA, gc, gA2, gc2, gns, grs⟩) s1 s2
        apply hne
        unfold errG
        rw [s3, s4, if_pos k1, if_neg (by omega)])
      obtain ⟨er, her⟩ : ∃ er, er = errG ⟨gA, gc, gA2, gc2, gns, grs⟩ := ⟨_, rfl⟩
      rw [← her] at hne ⊢
      have e1 : (er != 0) = true := by simpa using hne
      clear b4 H3 HEn hne her
      obtain ⟨q0, q1⟩ := H4.out.1.two
      have hRl := H4.out.1.lt
      have hfr0 := H4.out.1.free 0
      have hfr1 := H4.out.1.free 1
      go_wp2_with fail
      obtain ⟨V, hV⟩ : ∃ V, V = ((w4.setCell ⟨Rb, 0, none⟩ (.slice none 0 0)).setCell ⟨Rb, 1, none⟩ (.slice none 0 0)) := ⟨_, rfl⟩
      have kR : Bk V Rb 29 #[.slice none 0 0, .slice none 0 0] := by rw [hV]; exact two_set H4.out.1
      have kB : Below w.heap.size w V := by rw [hV]; exact two_below H4.out.2 HFr.out
      have hl := run_loadVar_row (P := Try.prog) V Rb 29 29 #[.slice none 0 0, .slice none 0 0] (0, 0) _ kR Try.underlying29 rfl (by kernel_rfl)
      rw [← hV]
      clear hV q0 q1 hRl hfr0 hfr1
      refine bodyPost_ret (res2 (p := 2) (u := 3) (by kernel_rfl) hl rfl rfl) rfl ?_
      rw [HE.out]
      exact .inl ⟨rfl, kB, HBad.out⟩
    · obtain ⟨vA, vc, ev, _⟩ := how.form
      obtain ⟨vn, hvn⟩ : ∃ z, z = (encW gns grs).length := ⟨_, rfl⟩
      simp only at ev hck hend
      rw [ev] at how
      have HEq := Lib.hid (fun W (b : Below w4.heap.size w4 W) => equ_c W vA A vc c (encW gns grs) ws ((how.rd.below b).more b.size) (((HX.out.1.below (H3.out.2.2.1.trans (b4.mono H3.out.2.2.1.size))).more (Nat.le_trans H3.out.2.2.1.size b4.size)).below b |>.more b.size) (by
        have hl := encW_len gns grs (fun r hr => (goodS_size ((ckG_ok hck).2.2 r hr).1).2)
        omega))
      rw [← hvn] at ev
      rw [← hvn, ← HN.out] at HEq
      subst ev
      have H4 := Lib.hid (show Bk w4 Rb 29 #[.slice none 0 0, .slice none 0 0] ∧ Below w.heap.size w w4 ∧ Bk w4 Gb 29 #[.slice gA gN gc, .slice gA2 gM gc2] ∧ Below w2.heap.size w2 w4 from ⟨H3.out.2.1.below b4 H3.out.2.1.lt, H3.out.2.2.1.trans (b4.mono H3.out.2.2.1.size), H3.out.1.below b4 H3.out.1.lt, H3.out.2.2.2.1.trans (b4.mono H3.out.2.2.2.1.size)⟩)
      have HCk := Lib.hid (And.intro hck hend)
      clear how b4 HEn hvn hck hend
      by_cases he : encW gns grs = ws
      · have HEq1 := Lib.hid (fun W (b : Below w4.heap.size w4 W) => show Calls Try.prog 28 #[.slice vA vn vc, .slice A n c] W (RetP (.bool true) W) from by have h := HEq.out W b; rw [decide_eq_true he] at h; exact h)
        have HEe := Lib.hid he
        clear HEq he
        go_wp2_with fail
        refine Calls.mono (HEq1.out w4 (Below.refl _ _)) ?_
        rintro r w5 ⟨rfl, b5⟩
        have H5 := Lib.hid (show Bk w5 Rb 29 #[.slice none 0 0, .slice none 0 0] ∧ Below w.heap.size w w5 ∧ Bk w5 Gb 29 #[.slice gA gN gc, .slice gA2 gM gc2] ∧ Below w2.heap.size w2 w5 from ⟨H4.out.1.below b5 H4.out.1.lt, H4.out.2.1.trans (b5.mono H4.out.2.1.size), H4.out.2.2.1.below b5 H4.out.2.2.1.lt, H4.out.2.2.2.trans (b5.mono H4.out.2.2.2.size)⟩)
        clear b5 H4 HEq1
        obtain ⟨g0, g1⟩ := H5.out.2.2.1.two
        have hGl := H5.out.2.2.1.lt
        obtain ⟨q0, q1⟩ := H5.out.1.two
        have hRl := H5.out.1.lt
        have hfr0 := H5.out.1.free 0
        have hfr1 := H5.out.1.free 1
        have hne := H3.out.2.2.2.2
        go_wp2_with fail
        obtain ⟨V, hV⟩ : ∃ V, V = ((w5.setCell ⟨Rb, 0, none⟩ (.slice gA gN gc)).setCell ⟨Rb, 1, none⟩ (.slice gA2 gM gc2)) := ⟨_, rfl⟩
        have kR : Bk V Rb 29 #[.slice gA gN gc, .slice gA2 gM gc2] := by rw [hV]; exact two_set H5.out.1
        have kK : Kept (fun j => j = Rb) w5 V := by
          rw [hV]
          exact (Kept.set w5 Rb 0 _).trans (Kept.set _ Rb 1 _)
        have kB : Below w.heap.size w V := by rw [hV]; exact two_below H5.out.2.1 HFr.out
        have hl := run_loadVar_row (P := Try.prog) V Rb 29 29 #[.slice gA gN gc, .slice gA2 gM gc2] (0, 0) _ kR Try.underlying29 rfl (by kernel_rfl)
        rw [← hV]
        clear hV q0 q1 hRl hfr0 hfr1 g0 g1 hGl
        refine bodyPost_ret (res2 (p := 2) (u := 3) (by kernel_rfl) hl rfl rfl) rfl ?_
        rw [HE.out]
        have hN5 : NOwn w5 w1.heap.size (.slice gA gN gc) gns := by
          have h := HOw.out.1
          rw [HGN.out.1]
          exact h.below H5.out.2.2.2
        have hR5 : ROwn w5 w1.heap.size (.slice gA2 gM gc2) grs := by
          have h := HOw.out.2.1
          rw [HGN.out.2]
          exact h.below H5.out.2.2.2
        have hNV : NOwn V w1.heap.size (.slice gA gN gc) gns := by
          refine hN5.grown (q := Rb) ⟨kK.os, kK.tape, kK.output, kK.size, fun j hj hn => kK.block j hj (fun e => hn (by rw [e]))⟩ (fun hm => ?_)
          have := blks_ge hN5 Rb hm
          have := HOw.out.2.2.1
          omega
        have hRV : ROwn V w1.heap.size (.slice gA2 gM gc2) grs := kK.rowF hR5 (fun j hj hh => by have h9 := (World.ownsRow.lt hR5 j hj).1; have := HOw.out.2.2.1; omega)
        obtain ⟨r1, r2, r3⟩ := hNV.rows
        obtain ⟨t1, t2, t3⟩ := hRV.rows
        refine .inr ⟨⟨gA, gc, gA2, gc2, gns, grs⟩, ?_, ⟨r1, t1, r3, t3⟩, HCk.out.1, HCk.out.2, HEe.out, kB, ?_, ?_⟩
        · show _ = Ending.returned (.tuple #[.agg #[.slice gA gns.length gc, .slice gA2 grs.length gc2], .int .i64 0])
          rw [← HGN.out.1, ← HGN.out.2]
          rfl
        · show NOwn V w.heap.size (.slice gA gns.length gc) gns
          rw [← r2]
          exact hNV.mono HOw.out.2.2.2
        · show ROwn V w.heap.size (.slice gA2 grs.length gc2) grs
          rw [← t2]
          exact hRV.mono HOw.out.2.2.2
      · have HEq1 := Lib.hid (fun W (b : Below w4.heap.size w4 W) => show Calls Try.prog 28 #[.slice vA vn vc, .slice A n c] W (RetP (.bool false) W) from by have h := HEq.out W b; rw [decide_eq_false he] at h; exact h)
        have HBad := Lib.hid (show BadW ws from fun g' k1 k2 e => by
          obtain ⟨s1, s2⟩ := read_same (g := ⟨gA, gc, gA2, gc2, gns, grs⟩) HG.out.2.1 HG.out.2.2.1 HG.out.2.2.2.1 k1 k2 e
          obtain ⟨s3, _, _⟩ := enc_same (g := ⟨gA, gc, gA2, gc2, gns, grs⟩) s1 s2
          exact he (s3.trans e))
        clear HEq he
        go_wp2_with fail
        refine Calls.mono (HEq1.out w4 (Below.refl _ _)) ?_
        rintro r w5 ⟨rfl, b5⟩
        have H5 := Lib.hid (show Bk w5 Rb 29 #[.slice none 0 0, .slice none 0 0] ∧ Below w.heap.size w w5 from ⟨H4.out.1.below b5 H4.out.1.lt, H4.out.2.1.trans (b5.mono H4.out.2.1.size)⟩)
        clear b5 H4 HEq1
        obtain ⟨q0, q1⟩ := H5.out.1.two
        have hRl := H5.out.1.lt
        have hfr0 := H5.out.1.free 0
        have hfr1 := H5.out.1.free 1
        go_wp2_with fail
        obtain ⟨V, hV⟩ : ∃ V, V = ((w5.setCell ⟨Rb, 0, none⟩ (.slice none 0 0)).setCell ⟨Rb, 1, none⟩ (.slice none 0 0)) := ⟨_, rfl⟩
        have kR : Bk V Rb 29 #[.slice none 0 0, .slice none 0 0] := by rw [hV]; exact two_set H5.out.1
        have kB : Below w.heap.size w V := by rw [hV]; exact two_below H5.out.2 HFr.out
        have hl := run_loadVar_row (P := Try.prog) V Rb 29 29 #[.slice none 0 0, .slice none 0 0] (0, 0) _ kR Try.underlying29 rfl (by kernel_rfl)
        rw [← hV]
        clear hV q0 q1 hRl hfr0 hfr1
        refine bodyPost_ret (res2 (p := 2) (u := 3) (by kernel_rfl) hl rfl rfl) rfl ?_
        rw [HE.out]
        exact .inl ⟨rfl, kB, HBad.out⟩
end Go.Proofs.Ytaminpfgkegibaa
/- How an argument of type []uint64 is opened. No conditions. -/
namespace Go.Proofs.Ytaminpfgkegibaa
set_option linter.unusedVariables false
set_option linter.unusedSimpArgs false
open Go.ChangeShapes Go.WideShapes Go.ChangeAt Go.RowKit
theorem open_words {H : Type} {enc : TypeId × Value → H} {P : Program} {W : World} {base : Nat} {sp : Nat → Bool} {hd : Bool} {r : Reach} {b0 : Nat} {t e : TypeId} {v : Value} {d : DataW H} {p : List MemPlace}
    (ht : P.underlying t = some (.slice e)) (he : P.underlying e = some (.int .u64)) (hc : P.cellsOf e = 1)
    (hv : Value.okWide P W r b0 t v) (h : DataW.Trod enc P W base sp hd t v d p) :
    ∃ (A : Option Addr) (bs : List (BitVec 64)) (c : Nat), v = .slice A bs.length c ∧ bs.length ≤ c ∧ c ≤ maxLen ∧ Rd u64v W W.heap.size A bs := by
  obtain ⟨a0, len, cap, rfl⟩ := okWide_slice ht hv
  obtain ⟨fuel, hf⟩ := h
  rcases open_ints ht he hc hf with ⟨hcs, _⟩ | ⟨x, l, c, zs, hcs, _, hl, hm, hz, _, hcell, hwz⟩
  · simp [Value.cells] at hcs
    obtain ⟨rfl, rfl, rfl⟩ := hcs
    exact ⟨none, [], 0, rfl, Nat.le_refl _, by simp [maxLen], Rd.nil⟩
  · simp [Value.cells] at hcs
    obtain ⟨rfl, rfl, rfl⟩ := hcs
    have hlen : len ≤ zs.length := by rw [hz]; split <;> omega
    refine ⟨some x, (zs.take len).map (BitVec.ofInt 64), cap, by simp; omega, by simp; omega, hm, fun j hj => ?_⟩
    have hj' : j < len := by simp at hj; omega
    have hc1 := hcell j (by omega)
    have hb := cell_lt hc1
    rw [add_block] at hb
    refine ⟨x, rfl, hb, ?_⟩
    rw [hc1]
    have hw := hwz (zs.getD j 0) (by rw [List.getD_eq_getElem?_getD, List.getElem?_eq_getElem (by omega)]; exact List.getElem_mem _)
    rw [wfu64 hw]
    have e : zs.getD j 0 = zs[j]'(by omega) := by rw [List.getD_eq_getElem?_getD, List.getElem?_eq_getElem (by omega)]; rfl
    rw [e]
    simp [u64v]
end Go.Proofs.Ytaminpfgkegibaa
