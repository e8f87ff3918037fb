/- Texts joined: EnE EnG EnF ImD FldR DcF ImE RegG. -/
import Derived.Test.YtkkjnahjmomjgaaWc10
import Derived.Test.YtkkjnahjmomjgaaBitsA
/- loamref17.Need, Encode. Conditions: a graph of few nodes. -/
namespace Go.Proofs.Ytkkjnahjmomjgaa
set_option linter.unusedVariables false
set_option linter.unusedSimpArgs false
open Go.RowKit Go.Maps
set_option maxHeartbeats 4000000
set_option maxRecDepth 100000
end Go.Proofs.Ytkkjnahjmomjgaa
/- loamref17.Encode: the append that fills a name up; the row of the first two words. Conditions: lengths. -/
namespace Go.Proofs.Ytkkjnahjmomjgaa
set_option linter.unusedVariables false
set_option linter.unusedSimpArgs false
open Go.RowKit
set_option maxHeartbeats 2000000
end Go.Proofs.Ytkkjnahjmomjgaa
/- loamref17.Encode. Conditions: a graph of few nodes. -/
namespace Go.Proofs.Ytkkjnahjmomjgaa
set_option linter.unusedVariables false
set_option linter.unusedSimpArgs false
open Go.RowKit Go.Maps
set_option maxHeartbeats 4000000
set_option maxRecDepth 100000
/-- What Encode answers. -/
def EncP (g : Gv) (w : World) (r : Ending) (w' : World) : Prop :=
  (∃ er : Int, er ≠ 0 ∧ r = .returned (.tuple #[.slice none 0 0, .int .i64 er]) ∧ Below w.heap.size w w') ∨
  (ckG g = 0 ∧ endL g.n (2 + 5 * g.r.length) ≤ 8192 ∧ ∃ v, r = .returned (.tuple #[v, .int .i64 0]) ∧ Ow u64v 57 w' w.heap.size v (encW g.n g.r) ∧ Below w.heap.size w w')
/-- What Encode answers of a graph: 0, or why not. -/
def errG (g : Gv) : Int := if ckG g = 0 then (if 8192 < endL g.n (2 + 5 * g.r.length) then 3 else 0) else ckG g
def EncX (g : Gv) (w : World) (r : Ending) (w' : World) : Prop :=
  (errG g ≠ 0 ∧ r = .returned (.tuple #[.slice none 0 0, .int .i64 (errG g)]) ∧ Below w.heap.size w w') ∨
  (ckG g = 0 ∧ endL g.n (2 + 5 * g.r.length) ≤ 8192 ∧ ∃ v, r = .returned (.tuple #[v, .int .i64 0]) ∧ Ow u64v 57 w' w.heap.size v (encW g.n g.r) ∧ Below w.heap.size w w')
end Go.Proofs.Ytkkjnahjmomjgaa
/- image.Need, image.base, image.putRoot. Conditions: lengths. -/
namespace Go.Proofs.Ytkkjnahjmomjgaa
set_option linter.unusedVariables false
set_option linter.unusedSimpArgs false
open Go.RowKit Go.Maps
set_option maxHeartbeats 4000000
set_option maxRecDepth 100000
theorem ibase_c (R : Nat) (hR : R ≤ 1000000) (w : World) : Calls Try.prog 25 #[.int .i64 (R : Int)] w (RetP (.int .i64 ((2 + 5 * R : Nat) : Int)) w) := by
  obtain ⟨q, hq⟩ : ∃ q, q = 2 + 5 * R := ⟨_, rfl⟩
  rw [← hq]
  obtain ⟨m, hm⟩ : ∃ m, m = 5 * R := ⟨_, rfl⟩
  have q1 : 5 * (R : Int) = (m : Int) := by omega
  have q2 : 2 + (m : Int) = (q : Int) := by omega
  have q3 : (q : Int) ≤ 6000000 := by omega
  have q4 : (m : Int) ≤ 6000000 := by omega
  have q5 : (R : Int) ≤ 1000000 := by omega
  clear hq hm hR
  go_enter Try.func25, Try.ntmps25
  go_wp2_with fail
  go_ret
  exact ⟨rfl, Below.refl _ _⟩
theorem small_words {g : Gv} (h : g.Small) : 0 ≤ wordsL g.n ∧ wordsL g.n ≤ 300000000 := by
  have h1 := wordsL_le g.n
  have h2 := h.1
  omega
theorem ind1 (Q : Exit → Act → World → Prop) (a0 : Act) (w : World) (G N M c c2 : Nat) (A A2 : Option Addr) (z : Int) (hGl : G < w.heap.size) (g0 : w.cell? ⟨G, 0, none⟩ = some (.slice A N c)) (g1 : w.cell? ⟨G, 1, none⟩ = some (.slice A2 M c2)) (b0 : Nat) (hb0 : (b0 : Int) ≤ 6000000) (hbs : Hid (∀ W, Calls Try.prog 25 #[.int .i64 (M : Int)] W (RetP (.int .i64 (b0 : Int)) W))) (z0 : 0 ≤ z) (z1 : z ≤ 300000000) (hw : Hid (∀ W, Below w.heap.size w W → Calls Try.prog 36 #[.agg #[.slice A N c, .slice A2 M c2]] W (RetP (.int .i64 z) W))) (hsz : a0.tmps.size = 10) (sl1 : a0.tmps.getD 1 undef = .pointer (some ⟨G, 0, none⟩))
    (fin : ∀ (vals : Nat → Value) (w1 : World), Below w.heap.size w w1 → (IsV (.int .i64 ((b0 : Int) + z))) (vals 7) w1 → Q .normal (putD vals [3, 4, 5, 6, 7, 8, 9, 2] 0 a0) w1) :
    (Code.region 1 (regIn Try.f14 1) true).wp Try.prog Q a0 w := by
  refine region_by (G := fun w w1 => Below w.heap.size w w1) [IsV (.pointer (some ⟨G, 1, none⟩)),
    IsV (.slice A2 M c2),
    IsV (.int .i64 (M : Int)),
    IsV (.int .i64 (b0 : Int)),
    IsV (.agg #[.slice A N c, .slice A2 M c2]),
    IsV (.int .i64 z),
    IsV (.int .i64 ((b0 : Int) + z)),
    IsV (.int .i64 ((b0 : Int) + z))]
    [3, 4, 5, 6, 7, 8, 9, 2] (by kernel_rfl) (Gw.drew _) Gw.trans (by rw [hsz]; kernel_rfl) (by kernel_rfl) ?_ ?_ ?_
  · intro f hf
    simp only [List.mem_cons, List.not_mem_nil, or_false] at hf
    rcases hf with rfl | rfl | rfl | rfl | rfl | rfl | rfl | rfl <;> intro v a b h g <;> first | exact IsV.mono h
  · refine ⟨?_, ?_, ?_, ?_, ?_, ?_, ?_, ?_, trivial⟩
    · refine owes_v (Go.Op.fieldAddr 25 (Go.Operand.tmp 1) 1) 0 [] (by kernel_rfl) (by kernel_rfl) (by kernel_rfl) rfl fun vals w1 ρ hG hF hρ hcst hfun => ?_
      have e1 : ρ (.tmp 1) = .pointer (some ⟨G, 0, none⟩) := ((hρ 1).trans (slotO [] (by kernel_rfl))).trans sl1
      clear hρ hF hcst hfun sl1 fin
      exact opv_val (by go_simp <;> rfl) ⟨gw_self _, rfl⟩
    · refine owes_v (Go.Op.load 23 (Go.Operand.tmp 3)) 23 [0] (by kernel_rfl) (by kernel_rfl) (by kernel_rfl) rfl fun vals w1 ρ hG hF hρ hcst hfun => ?_
      have e3 : ρ (.tmp 3) = .pointer (some ⟨G, 1, none⟩) := ((hρ 3).trans (slotJ [0] (by rw [hsz]; decide) (by kernel_rfl))).trans (hF 0 (by decide))
      have kk := (hG.cell (p := ⟨G, 1, none⟩) hGl).trans g1
      clear hρ hF hcst hfun sl1 fin
      exact opv_val (by go_simp <;> rfl) ⟨gw_self _, rfl⟩
    · refine owes_v (Go.Op.call { callee := Go.Callee.builtin Go.Builtin.len, args := #[Go.Operand.tmp 4], argTypes := #[23] }) 3 [1] (by kernel_rfl) (by kernel_rfl) (by kernel_rfl) rfl fun vals w1 ρ hG hF hρ hcst hfun => ?_
      have e4 : ρ (.tmp 4) = .slice A2 M c2 := ((hρ 4).trans (slotJ [1] (by rw [hsz]; decide) (by kernel_rfl))).trans (hF 1 (by decide))
      clear hρ hF hcst hfun sl1 fin
      exact opv_val (by go_simp <;> rfl) ⟨gw_self _, rfl⟩
    · refine owes_v (Go.Op.call { callee := Go.Callee.value (Go.Operand.func 25), args := #[Go.Operand.tmp 5], argTypes := #[3] }) 3 [2] (by kernel_rfl) (by kernel_rfl) (by kernel_rfl) rfl fun vals w1 ρ hG hF hρ hcst hfun => ?_
      have e5 : ρ (.tmp 5) = .int .i64 (M : Int) := ((hρ 5).trans (slotJ [2] (by rw [hsz]; decide) (by kernel_rfl))).trans (hF 2 (by decide))
      clear hρ hF hcst sl1 fin
      exact opv_enter (by go_simp <;> rfl) (of_ret (hbs.out w1))
    · refine owes_v (Go.Op.load 25 (Go.Operand.tmp 1)) 25 [] (by kernel_rfl) (by kernel_rfl) (by kernel_rfl) rfl fun vals w1 ρ hG hF hρ hcst hfun => ?_
      have e1 : ρ (.tmp 1) = .pointer (some ⟨G, 0, none⟩) := ((hρ 1).trans (slotO [] (by kernel_rfl))).trans sl1
      have k0 := (hG.cell (p := ⟨G, 0, none⟩) hGl).trans g0; have k1 := (hG.cell (p := ⟨G, 1, none⟩) hGl).trans g1
      clear hρ hF hcst hfun sl1 fin
      exact opv_val (by go_simp <;> rfl) ⟨gw_self _, rfl⟩
    · refine owes_v (Go.Op.call { callee := Go.Callee.value (Go.Operand.func 36), args := #[Go.Operand.tmp 7], argTypes := #[25] }) 3 [4] (by kernel_rfl) (by kernel_rfl) (by kernel_rfl) rfl fun vals w1 ρ hG hF hρ hcst hfun => ?_
      have e7 : ρ (.tmp 7) = .agg #[.slice A N c, .slice A2 M c2] := ((hρ 7).trans (slotJ [4] (by rw [hsz]; decide) (by kernel_rfl))).trans (hF 4 (by decide))
      clear hρ hF hcst sl1 fin
      exact opv_enter (by go_simp <;> rfl) (of_ret (hw.out w1 hG))
    · refine owes_v (Go.Op.binOp Go.BinOp.add 3 (Go.Operand.tmp 6) (Go.Operand.tmp 8) 3) 3 [3, 5] (by kernel_rfl) (by kernel_rfl) (by kernel_rfl) rfl fun vals w1 ρ hG hF hρ hcst hfun => ?_
      have e6 : ρ (.tmp 6) = .int .i64 (b0 : Int) := ((hρ 6).trans (slotJ [3, 5] (by rw [hsz]; decide) (by kernel_rfl))).trans (hF 3 (by decide))
      have e8 : ρ (.tmp 8) = .int .i64 z := ((hρ 8).trans (slotJ [3, 5] (by rw [hsz]; decide) (by kernel_rfl))).trans (hF 5 (by decide))
      have kw0 : IntKind.i64.wrap (((b0 : Int) + z)) = ((b0 : Int) + z) := wrapIn (by omega) (by omega)
      clear hρ hF hcst hfun sl1 fin
      exact opv_val (by go_simp <;> rfl) ⟨gw_self _, rfl⟩
    · exact owes_mvj 6 9 (by kernel_rfl) (by kernel_rfl) (by kernel_rfl) (by kernel_rfl) (by rw [hsz]; decide) (fun v w h => h)
  · intro vals w1 hG hF
    exact fin vals w1 hG (hF 7 (by decide +kernel))
theorem ineed_c (w : World) (g : Gv) (hg : g.At w w.heap.size) (hs : g.Small) : Calls Try.prog 14 #[g.v] w (RetP (.int .i64 (((2 + 5 * g.r.length : Nat) : Int) + wordsL g.n)) w) := by
  have HW := Lib.hid (fun W (b : Below w.heap.size w W) => gwords_c W g (hg.up b) hs)
  obtain ⟨z0, z1⟩ := small_words hs
  obtain ⟨z, hz⟩ : ∃ z, z = wordsL g.n := ⟨_, rfl⟩
  rw [← hz] at HW z0 z1 ⊢
  have hM := hs.2.1
  obtain ⟨A, ca, A2, ca2, ns, rs⟩ := g
  obtain ⟨N, hN⟩ : ∃ N, N = ns.length := ⟨_, rfl⟩
  obtain ⟨M, hMM⟩ : ∃ M, M = rs.length := ⟨_, rfl⟩
  unfold Gv.v Gv.vn Gv.vr at HW ⊢
  simp only at HW hM ⊢
  rw [← hMM] at HW hM ⊢
  rw [← hN] at HW ⊢
  have HBs := Lib.hid (fun W => ibase_c M hM W)
  obtain ⟨b0, hb0⟩ : ∃ b0, b0 = 2 + 5 * M := ⟨_, rfl⟩
  rw [← hb0] at HBs ⊢
  have hbI : (b0 : Int) ≤ 6000000 := by omega
  clear hg hs hz hN hMM hM hb0
  go_enter Try.func14, Try.ntmps14
  go_wp2_with fail
  obtain ⟨G, hG⟩ : ∃ G, G = w.heap.size := ⟨_, rfl⟩
  obtain ⟨w1, hw1⟩ : ∃ W, W = w.alloc (.cells #[.slice A N ca, .slice A2 M ca2] 25) := ⟨_, rfl⟩
  have hbk : Bk w1 G 25 #[.slice A N ca, .slice A2 M ca2] := by rw [hw1, hG]; exact Bk.new w _ _
  have b1 : Below w.heap.size w w1 := by rw [hw1]; exact Gw.alloc w _
  rw [← hw1, ← hG]
  have HW1 := Lib.hid (fun W (b : Below w1.heap.size w1 W) => HW.out W (b1.trans (b.mono b1.size)))
  have hGl := hbk.lt
  have H1 := Lib.hid b1
  obtain ⟨g0, g1⟩ := hbk.two
  clear hw1 hG hbk b1 HW
  refine ind1 _ _ _ G N M ca ca2 A A2 z hGl g0 g1 b0 hbI HBs z0 z1 (Lib.hid (fun W b => (HW1.out W b).mono fun r w' h => h)) rfl ?_ ?_
  · rfl
  intro vals w2 hG2 h2
  unfold IsV at h2
  simp only [putD, Act.put, List.setIfInBounds_toArray, List.set_cons_zero, List.set_cons_succ, h2]
  have H2 := Lib.hid (H1.out.trans (hG2.mono H1.out.size))
  clear hG2 h2
  go_wp2_with fail
  go_ret
  exact ⟨rfl, H2.out⟩
/-- What places[p] and 1 are. -/
theorem point_val (ns : List Nv) (b : Nat) (p : Int) (h : okP ns.length p = true) (hb : endL ns b ≤ 8192) : (0 ≤ p ∧ p ≤ (ns.length : Int)) ∧ ∃ (h2 : p.toNat < (plI ns b).length) (y : Nat), (plI ns b)[p.toNat] = (y : Int) - 1 ∧ y ≤ 8192 ∧ U64 (pointW (placeL ns b) p) = (y : Int) := by
  by_cases h0 : p = 0
  · subst h0
    exact ⟨by omega, by rw [plI_len]; show 0 < _; omega, 0, rfl, by omega, rfl⟩
  · have hh : 1 ≤ p ∧ p ≤ (ns.length : Int) := by
      unfold okP hasG at h
      simpa [h0] using h
    have hk : p.toNat - 1 < ns.length := by omega
    have e := plI_at ns b (p.toNat - 1) hk
    rw [show p.toNat - 1 + 1 = p.toNat from by omega] at e
    obtain ⟨hl, he⟩ := List.getElem?_eq_some_iff.1 e
    have hpl := placeL_at ns b (p.toNat - 1) hk
    have hm : endL (ns.take (p.toNat - 1)) b ∈ placeL ns b := by
      rw [← hpl, List.getD_eq_getElem?_getD, List.getElem?_eq_getElem (by rw [placeL_len]; exact hk)]
      exact List.getElem_mem _
    have hlt := placeL_lt ns b _ hm
    refine ⟨⟨by omega, hh.2⟩, hl, endL (ns.take (p.toNat - 1)) b + 1, by rw [he]; omega, by omega, ?_⟩
    unfold pointW
    rw [if_neg h0, hpl]
    exact ofNat_U64 _ (by omega)
end Go.Proofs.Ytkkjnahjmomjgaa
/- The lowest 16 bits of a word. No conditions. -/
namespace Go.Proofs.Ytkkjnahjmomjgaa
set_option linter.unusedVariables false
set_option linter.unusedSimpArgs false
open Go.RowKit
set_option maxHeartbeats 1000000
theorem field_nR (x : BitVec 64) : U64 (fieldB x 0 16) = ((x.toNat % 65536 : Nat) : Int) := by
  unfold fieldB
  rw [if_pos (by decide)]
  have e : x >>> (0 : Int).toNat = x := by
    show x >>> (0 : Nat) = x
    exact BitVec.ushiftRight_zero _
  rw [e]
  unfold U64
  rw [BitVec.toNat_and, lowB_nat 16 (by decide) (by decide)]
  show ((x.toNat &&& (2 ^ 16 - 1) : Nat) : Int) = _
  rw [Nat.and_two_pow_sub_one_eq_mod]
end Go.Proofs.Ytkkjnahjmomjgaa
/- image.read. Conditions: at most 8192 words. -/
namespace Go.Proofs.Ytkkjnahjmomjgaa
set_option linter.unusedVariables false
set_option linter.unusedSimpArgs false
open Go.RowKit Go.Maps
set_option maxHeartbeats 8000000
set_option maxRecDepth 100000
/-- Words that are no graph's. -/
def BadW (ws : List (BitVec 64)) : Prop := ∀ g : Gv, ckG g = 0 → endL g.n (2 + 5 * g.r.length) ≤ 8192 → encW g.n g.r ≠ ws
def nR (ws : List (BitVec 64)) : Nat := (ws.getD 1 0#64).toNat % 65536
theorem objF_of (ws : List (BitVec 64)) (top : Nat) : ∀ (n a : Nat) (l : List Nat), foundN ws top n a = (l, none) → objF ws top n a = some l
  | 0, a, l, h => by
    have h : (([] : List Nat), (none : Option Nat)) = (l, none) := h
    injection h with h
    rw [← h]
    rfl
  | n + 1, a, l, h => by
    have e : objF ws top (n + 1) a = if a < top then (if goodX (ws.getD a 0#64) (top - a) = true then (objF ws top n (a + szX (ws.getD a 0#64))).map (a :: ·) else none) else some [] := rfl
    rw [e]
    unfold foundN at h
    by_cases h1 : a < top
    · rw [if_pos h1] at h ⊢
      by_cases h2 : goodX (ws.getD a 0#64) (top - a) = true
      · rw [if_pos h2] at h ⊢
        injection h with h3 h4
        rw [objF_of ws top n _ (foundN ws top n (a + szX (ws.getD a 0#64))).1 (by rw [← h4])]
        rw [← h3]
        rfl
      · rw [if_neg h2] at h
        injection h with _ h4
        cases h4
    · rw [if_neg h1] at h ⊢
      injection h with h3
      rw [← h3]
/-- What an image of a graph has, as read finds it. -/
theorem enc_read {g : Gv} (h : ckG g = 0) (ht : endL g.n (2 + 5 * g.r.length) ≤ 8192) : 2 ≤ (encW g.n g.r).length ∧ nR (encW g.n g.r) = g.r.length ∧ 2 + 5 * g.r.length ≤ (encW g.n g.r).length ∧ objF (encW g.n g.r) (encW g.n g.r).length ((encW g.n g.r).length + 1) (2 + 5 * g.r.length) = some (placeL g.n (2 + 5 * g.r.length)) ∧ (placeL g.n (2 + 5 * g.r.length)).all (wellN (encW g.n g.r) (placeL g.n (2 + 5 * g.r.length))) = true := by
  obtain ⟨h1, h2, h3⟩ := ckG_ok h
  have hlen := encW_len g.n g.r (fun r hr => (goodS_size (h3 r hr).1).2)
  have hge := endL_ge g.n (2 + 5 * g.r.length)
  obtain ⟨f1, f2⟩ := enc_found h1 h3 ht
  refine ⟨by omega, ?_, by omega, objF_of _ _ _ _ _ f1, (allE_nil _ _ _).1 f2⟩
  have e : (encW g.n g.r).getD 1 0#64 = BitVec.ofNat 64 (g.r.length + endL g.n (2 + 5 * g.r.length) * 65536) := rfl
  unfold nR
  rw [e, BitVec.toNat_ofNat]
  omega
def ReadP (w : World) (ws : List (BitVec 64)) (r : Ending) (w' : World) : Prop :=
  (∃ er : Int, er ≠ 0 ∧ r = .returned (.tuple #[.agg #[.slice none 0 0, .slice none 0 0], .int .i64 er]) ∧ Below w.heap.size w w' ∧ BadW ws) ∨
  (∃ (g : Gv) (l : List Nat), r = .returned (.tuple #[g.v, .int .i64 0]) ∧ g.At w' w'.heap.size ∧ objF ws ws.length (ws.length + 1) (2 + 5 * nR ws) = some l ∧ g.n.map normN = l.map (dNode ws l) ∧ g.r = (List.range (nR ws)).map (dRoot ws l) ∧ 2 + 5 * nR ws ≤ ws.length ∧ Below w.heap.size w w' ∧ NOwn w' w.heap.size g.vn g.n ∧ ROwn w' w.heap.size g.vr g.r)
theorem read_c (w : World) (A : Option Addr) (c : Nat) (ws : List (BitVec 64)) (hr : Rd u64v w w.heap.size A ws) (h8 : ws.length ≤ 8192) :
    Calls Try.prog 38 #[.slice A ws.length c] w (ReadP w ws) := by
  obtain ⟨E, hE⟩ : ∃ E, E = ReadP w ws := ⟨_, rfl⟩
  rw [← hE]
  have HE := Lib.hid hE
  obtain ⟨n, hn⟩ : ∃ n, n = ws.length := ⟨_, rfl⟩
  have nI : (n : Int) ≤ 8192 := by omega
  have n0 : (0 : Int) ≤ (n : Int) := by omega
  have HX := Lib.hid (And.intro hn (And.intro h8 hr))
  by_cases h2 : n < 2
  · have k2 : (n : Int) < 2 := by omega
    have HBad := Lib.hid (show BadW ws from fun g g1 g2 e => by have := (enc_read g1 g2).1; rw [e] at this; omega)
    rw [← hn]
    clear hE hr hn h8 h2
    go_enter Try.func38, Try.ntmps38
    go_wp2_with fail
    obtain ⟨Rb, hRb⟩ : ∃ R, R = w.heap.size := ⟨_, rfl⟩
    obtain ⟨V, hV⟩ : ∃ V, V = w.alloc (.cells #[.slice none 0 0, .slice none 0 0] 25) := ⟨_, rfl⟩
    have kR : Bk V Rb 25 #[.slice none 0 0, .slice none 0 0] := by rw [hV, hRb]; exact Bk.new w _ _
    have kB : Below w.heap.size w V := by rw [hV]; exact Gw.alloc w _
    have hl := run_loadVar_row (P := Try.prog) V Rb 25 25 #[.slice none 0 0, .slice none 0 0] (0, 0) _ kR Try.underlying25 rfl (by kernel_rfl)
    rw [← hRb, ← hV]
    refine bodyPost_ret (res2 (p := 2) (u := 3) (by kernel_rfl) hl rfl rfl) rfl ?_
    rw [HE.out]
    exact .inl ⟨2, by decide, rfl, kB, HBad.out⟩
  · have k2 : ¬ (n : Int) < 2 := by omega
    obtain ⟨ad, rfl, hadl, hc1⟩ := hr 1 (by omega)
    obtain ⟨x, hx⟩ : ∃ x, x = ws[1] := ⟨_, rfl⟩
    rw [← hx] at hc1
    have hxe : ws.getD 1 0#64 = x := by rw [hx, List.getD_eq_getElem?_getD, List.getElem?_eq_getElem (by omega)]; rfl
    obtain ⟨R, hR⟩ : ∃ R, R = nR ws := ⟨_, rfl⟩
    have hRx : U64 (fieldB x 0 16) = (R : Int) := by rw [field_nR, ← hxe]; rw [hR]; rfl
    have hR6 : R < 65536 := by rw [hR]; unfold nR; exact Nat.mod_lt _ (by decide)
    have HFi := Lib.hid (fun W => field_c x 0 16 W)
    rw [hRx] at HFi
    have HOf := Lib.hid (fun W (b : Below w.heap.size w W) => of_in W (some ad) c ws ((hr.below b).more b.size) h8)
    rw [← hn] at HOf ⊢
    have HBs := Lib.hid (ibase_c R (by omega))
    obtain ⟨b, hb⟩ : ∃ b, b = 2 + 5 * R := ⟨_, rfl⟩
    rw [← hb] at HBs
    have RI : (R : Int) ≤ 65535 := by omega
    have R0 : (0 : Int) ≤ (R : Int) := by omega
    have bI : (b : Int) ≤ 400000 := by omega
    have n1 : (1 : Int) < (n : Int) := by omega
    obtain ⟨xv, hxv⟩ : ∃ xv, xv = U64 x := ⟨_, rfl⟩
    have hc1' : w.cell? ⟨ad.block, ad.off + 1, none⟩ = some (.int .u64 xv) := by rw [hxv]; exact hc1
    rw [← hxv] at HFi
    have HY := Lib.hid (And.intro hR (And.intro hb hR6))
    have hadl' : ad.block < w.heap.size := hadl
    clear hE hr hn h8 h2 hx hxe hRx hR hb hR6 hc1 hxv hadl
    go_enter Try.func38, Try.ntmps38
    go_wp2_with fail
    obtain ⟨Rb, hRb⟩ : ∃ R, R = w.heap.size := ⟨_, rfl⟩
    obtain ⟨w1, hw1⟩ : ∃ W, W = w.alloc (.cells #[.slice none 0 0, .slice none 0 0] 25) := ⟨_, rfl⟩
    have hbk : Bk w1 Rb 25 #[.slice none 0 0, .slice none 0 0] := by rw [hw1, hRb]; exact Bk.new w _ _
    have b1 : Below w.heap.size w w1 := by rw [hw1]; exact Gw.alloc w _
    rw [← hw1, ← hRb]
    have HFr := Lib.hid (Nat.le_of_eq hRb.symm)
    have H1 := Lib.hid (And.intro hbk b1)
    clear hw1 hRb hbk b1
    refine Calls.mono (HFi.out w1) ?_
    rintro r w2 ⟨rfl, hb2⟩
    have H2 := Lib.hid (show Bk w2 Rb 25 #[.slice none 0 0, .slice none 0 0] ∧ Below w.heap.size w w2 from ⟨H1.out.1.below (hb2.below _) H1.out.1.lt, H1.out.2.trans (hb2.below _)⟩)
    clear hb2 H1 HFi hc1' hadl'
    go_wp2_with fail
    refine Calls.mono (HOf.out w2 H2.out.2) ?_
    rintro r w3 ⟨m, v, rfl, hm, b3⟩
    have H3 := Lib.hid (show Bk w3 Rb 25 #[.slice none 0 0, .slice none 0 0] ∧ Below w.heap.size w w3 from ⟨H2.out.1.below b3 H2.out.1.lt, H2.out.2.trans (b3.mono H2.out.2.size)⟩)
    have HMm := Lib.hid hm
    clear b3 H2 HOf hm
    go_wp2_with fail
    refine Calls.mono (HBs.out w3) ?_
    rintro r w4 ⟨rfl, b4⟩
    have H4 := Lib.hid (show Bk w4 Rb 25 #[.slice none 0 0, .slice none 0 0] ∧ Below w.heap.size w w4 from ⟨H3.out.1.below b4 H3.out.1.lt, H3.out.2.trans (b4.mono H3.out.2.size)⟩)
    have HM4 := Lib.hid (HMm.out.below b4)
    clear b4 H3 HBs HMm
    by_cases hbn : b ≤ n
    · cases hob : objF ws n (n + 1) b with
      | none =>
        have HBad := Lib.hid (show BadW ws from fun g g1 g2 e => by
          have h := (enc_read g1 g2).2
          rw [e, ← HX.out.1, ← HY.out.1] at h
          have h3 := h.2.2.1
          rw [← h.1, ← HY.out.2.1, hob] at h3
          cases h3)
        have HSo := Lib.hid (sof_none w4 w2.heap.size m v ws b n n HM4.out hbn (Nat.le_refl _) (by rw [← HX.out.1]; exact Nat.le_refl _) (by have := HX.out.2.1; omega) hob)
        clear hob hbn
        go_wp2_with fail
        refine Calls.mono HSo.out ?_
        rintro r w5 ⟨rfl, b5⟩
        have H5 := Lib.hid (show Bk w5 Rb 25 #[.slice none 0 0, .slice none 0 0] ∧ Below w.heap.size w w5 from ⟨H4.out.1.below b5 H4.out.1.lt, H4.out.2.trans (b5.mono H4.out.2.size)⟩)
        clear b5 H4 HSo
        obtain ⟨q0, q1⟩ := H5.out.1.two
        have hRl := H5.out.1.lt
        have hfr0 := H5.out.1.free 0
        have hfr1 := H5.out.1.free 1
        go_wp2_with fail
        obtain ⟨V, hV⟩ : ∃ V, V = ((w5.setCell ⟨Rb, 0, none⟩ (.slice none 0 0)).setCell ⟨Rb, 1, none⟩ (.slice none 0 0)) := ⟨_, rfl⟩
        have kR : Bk V Rb 25 #[.slice none 0 0, .slice none 0 0] := by rw [hV]; exact two_set H5.out.1
        have kB : Below w.heap.size w V := by rw [hV]; exact two_below H5.out.2 HFr.out
        have hl := run_loadVar_row (P := Try.prog) V Rb 25 25 #[.slice none 0 0, .slice none 0 0] (0, 0) _ kR Try.underlying25 rfl (by kernel_rfl)
        rw [← hV]
        clear hV q0 q1 hRl hfr0 hfr1
        refine bodyPost_ret (res2 (p := 2) (u := 3) (by kernel_rfl) hl rfl rfl) rfl ?_
        rw [HE.out]
        exact .inl ⟨2, by decide, rfl, kB, HBad.out⟩
      | some l =>
        have HSo := Lib.hid (sof_some w4 w2.heap.size m v ws b n n HM4.out hbn (Nat.le_refl _) (by rw [← HX.out.1]; exact Nat.le_refl _) (by have := HX.out.2.1; omega) l hob)
        have HOb := Lib.hid (And.intro hob hbn)
        clear hob hbn
        go_wp2_with fail
        refine Calls.mono HSo.out ?_
        rintro r w5 ⟨s, rfl, sp5, b5⟩
        have H5 := Lib.hid (show Bk w5 Rb 25 #[.slice none 0 0, .slice none 0 0] ∧ Below w.heap.size w w5 ∧ SpAt w5 w2.heap.size s m v ws b n n from ⟨H4.out.1.below b5 H4.out.1.lt, H4.out.2.trans (b5.mono H4.out.2.size), sp5⟩)
        clear b5 H4 HSo sp5 HM4
        by_cases hwl : l.all (wellN ws l) = true
        · have HRn := Lib.hid (readNodes_c w5 w2.heap.size s m v ws b n n H5.out.2.2 HX.out.2.1 l HOb.out.1 hwl)
          clear hwl
          go_wp2_with fail
          refine Calls.mono HRn.out ?_
          rintro r w6 ⟨nv, mb, xs, rfl, no6, hxs, mp6, b6⟩
          obtain ⟨nA, nc, enA⟩ := nown_form no6
          obtain ⟨nn, hnn⟩ : ∃ k, k = xs.length := ⟨_, rfl⟩
          rw [← hnn] at enA
          subst enA
          have H6 := Lib.hid (show Bk w6 Rb 25 #[.slice none 0 0, .slice none 0 0] ∧ Below w.heap.size w w6 ∧ MemAt w6 w2.heap.size m v ws ∧ NOwn w6 w5.heap.size (.slice nA nn nc) xs ∧ xs.map normN = l.map (dNode ws l) ∧ MapIs w6 (some mb) (numM l) ∧ nn = xs.length from
            ⟨H5.out.1.below b6 H5.out.1.lt, H5.out.2.1.trans (b6.mono H5.out.2.1.size), (H5.out.2.2.below b6).mem, no6, hxs, mp6, hnn⟩)
          have HRb5 := Lib.hid (H5.out.1.lt)
          have HRw5 := Lib.hid (H5.out.2.1.size)
          clear no6 hxs mp6 b6 hnn H5 HRn
          go_wp2_with fail
          obtain ⟨Gb, hGb⟩ : ∃ G, G = w6.heap.size := ⟨_, rfl⟩
          obtain ⟨wS, hwS⟩ : ∃ W, W = w6.alloc (.cells #[.slice nA nn nc, .slice none 0 0] 25) := ⟨_, rfl⟩
          have hbk : Bk wS Gb 25 #[.slice nA nn nc, .slice none 0 0] := by rw [hwS, hGb]; exact Bk.new w6 _ _
          have b7 : Below w6.heap.size w6 wS := by rw [hwS]; exact Gw.alloc w6 _
          have z7 : wS.heap.size = Gb + 1 := by rw [hwS, hGb]; unfold World.alloc; simp
          rw [← hwS, ← hGb]
          have HSS := Lib.hid (show MemAt wS w2.heap.size m v ws ∧ NOwn wS w5.heap.size (.slice nA nn nc) xs ∧ MapIs wS (some mb) (numM l) ∧ Below w.heap.size w wS ∧ Rb < Gb ∧ wS.heap.size = Gb + 1 from
            ⟨H6.out.2.2.1.below b7, H6.out.2.2.2.1.below b7, H6.out.2.2.2.2.2.1.kept (Kept.of_below b7 (fun _ => False)) (fun _ _ f => f), H6.out.2.1.trans (b7.mono H6.out.2.1.size), by rw [hGb]; exact H6.out.1.lt, z7⟩)
          have HS0 : Hid (∃ rs', Bk wS Gb 25 #[.slice nA nn nc, .slice none 0 0] ∧ Bk wS Rb 25 #[.slice none 0 0, .slice none 0 0] ∧ ROwn wS (Gb + 1) (.slice none 0 0) rs' ∧ rs' = (List.range 0).map (dRoot ws l) ∧ Below w6.heap.size w6 wS) := Lib.hid
            ⟨[], hbk, H6.out.1.below b7 H6.out.1.lt, ROwn.nil _ _, rfl, b7⟩
          have HG := Lib.hid (show w.heap.size ≤ Gb ∧ Gb = w6.heap.size from ⟨by rw [hGb]; exact H6.out.2.1.size, hGb⟩)
          clear hwS hGb hbk b7 z7
          go_loopw [60] (fun x W => ∃ k : Nat, x = .int .i64 k ∧ k ≤ R ∧ Hid (∃ rv rs', Bk W Gb 25 #[.slice nA nn nc, rv] ∧ Bk W Rb 25 #[.slice none 0 0, .slice none 0 0] ∧ ROwn W (Gb + 1) rv rs' ∧ rs' = (List.range k).map (dRoot ws l) ∧ Below w6.heap.size w6 W ∧ Rb ≠ Gb)) (fun x _ => R - (Go.RowKit.intOf x).toNat)
          case atStart =>
            obtain ⟨rs', k1, k2', k3, k4, k5⟩ := HS0.out
            exact ⟨0, rfl, Nat.zero_le _, Lib.hid ⟨_, rs', k1, k2', k3, k4, k5, by have := HSS.out.2.2.2.2.1; omega⟩⟩
          case round =>
            obtain ⟨k, rfl, hk, hS⟩ := hrel
            clear HS0
            have p0 : (0 : Int) ≤ (k : Int) := by omega
            obtain ⟨rv, rs', e1, e2, e3, e4, e5, e6⟩ := hS.out
            by_cases hlt : k < R
            · have p1 : (k : Int) < (R : Int) := by omega
              have HBk := Lib.hid (fun W => ibase_c k (by omega) W)
              obtain ⟨a, ha⟩ : ∃ a, a = 2 + 5 * k := ⟨_, rfl⟩
              rw [← ha] at HBk
              have hal : a + 4 < ws.length := by have h1 := HOb.out.2; have h2 := HY.out.2.1; have h3 := HX.out.1; omega
              have HRr := Lib.hid (fun W (b : Below w6.heap.size w6 W) => readRoot_c W w2.heap.size m mb v ws (H6.out.2.2.1.below b) HX.out.2.1 l (H6.out.2.2.2.2.2.1.kept (Kept.of_below b (fun _ => False)) (fun _ _ f => f)) k a ha hal)
              have hrl : rs'.length ≤ 100000 := by rw [e4, List.length_map, List.length_range]; have := HY.out.2.2; omega
              have H0 := Lib.hid (And.intro e1 (And.intro e2 (And.intro e3 (And.intro e4 (And.intro e5 (And.intro e6 hrl))))))
              obtain ⟨rA, rc, er⟩ := own_form e3
              obtain ⟨rn, hrn⟩ : ∃ k, k = rs'.length := ⟨_, rfl⟩
              rw [← hrn] at er
              subst er
              clear e1 e2 e3 e4 e5 e6 hS ha hal hrl hrn hk
              go_wp2_with fail
              refine Calls.mono (HBk.out wr) ?_
              rintro r w7 ⟨rfl, b7⟩
              have H7 := Lib.hid (show Bk w7 Gb 25 #[.slice nA nn nc, .slice rA rn rc] ∧ Bk w7 Rb 25 #[.slice none 0 0, .slice none 0 0] ∧ ROwn w7 (Gb + 1) (.slice rA rn rc) rs' ∧ Below w6.heap.size w6 w7 ∧ Gb + 1 ≤ w7.heap.size from
                ⟨H0.out.1.below b7 H0.out.1.lt, H0.out.2.1.below b7 H0.out.2.1.lt, H0.out.2.2.1.below b7, H0.out.2.2.2.2.1.trans (b7.mono H0.out.2.2.2.2.1.size), by have := (H0.out.1.below b7 H0.out.1.lt).lt; omega⟩)
              clear b7 HBk
              go_wp2_with fail
              refine Calls.mono (HRr.out w7 H7.out.2.2.2.1) ?_
              rintro r w8 ⟨rfl, b8⟩
              have H8 := Lib.hid (show Bk w8 Gb 25 #[.slice nA nn nc, .slice rA rn rc] ∧ Bk w8 Rb 25 #[.slice none 0 0, .slice none 0 0] ∧ ROwn w8 (Gb + 1) (.slice rA rn rc) rs' ∧ Below w6.heap.size w6 w8 ∧ Gb + 1 ≤ w8.heap.size from
                ⟨H7.out.1.below b8 H7.out.1.lt, H7.out.2.1.below b8 H7.out.2.1.lt, H7.out.2.2.1.below b8, H7.out.2.2.2.1.trans (b8.mono H7.out.2.2.2.1.size), Nat.le_trans H7.out.2.2.2.2 b8.size⟩)
              clear b8 H7 HRr
              obtain ⟨xr, hxr⟩ : ∃ x, x = dRoot ws l k := ⟨_, rfl⟩
              have HXr := Lib.hid hxr
              rw [← hxr]
              clear hxr
              obtain ⟨xs1, xt1⟩ := xr
              unfold Rv.v
              simp only
              obtain ⟨g0, g1⟩ := H8.out.1.two
              have hGl := H8.out.1.lt
              have hfz := H8.out.1.free 1
              have HV := Lib.hid (two_new w8 56 56 (.string xs1) (.int .i64 xt1))
              go_wp2_with (at_builtin; refine wp_appRv rfl (.tmp 76) (.tmp 78) rfl (Gb + 1) _ rs' ⟨xs1, xt1⟩ rfl ((H8.out.2.2.1.below (Gw.alloc w8 _)).below (Gw.alloc _ _)) (w8.heap.size + 1) 1 rfl HV.out.1 HV.out.2 H0.out.2.2.2.2.2.2 (Nat.le_trans H8.out.2.2.2.2 (Nat.le_trans (Gw.alloc w8 _).size (Gw.alloc _ _).size)) ?_; intro v9 w9 ho9 hb9 hg9; obtain ⟨A9, c9, e9⟩ := own_form ho9; obtain ⟨n9, hn9⟩ : ∃ n, n = (rs' ++ [Rv.mk xs1 xt1]).length := ⟨_, rfl⟩; rw [← hn9] at e9; subst e9; clear hn9; have hk9 : Bk w9 Gb 25 #[.slice nA nn nc, .slice rA rn rc] := (Kept.grown hg9).bk ((H8.out.1.alloc _).alloc _) (fun hh => by have := (World.ownsRow.lt H8.out.2.2.1 _ hh).1; omega); have H9 := Lib.hid (And.intro ho9 (And.intro hk9 (And.intro ((Kept.grown hg9).bk ((H8.out.2.1.alloc _).alloc _) (fun hh => by have := (World.ownsRow.lt H8.out.2.2.1 _ hh).1; have := HSS.out.2.2.2.2.1; omega)) (((H8.out.2.2.2.1.alloc H8.out.2.2.2.1.size _).alloc (Nat.le_trans H8.out.2.2.2.1.size (Gw.alloc w8 _).size) _).trans (hb9.mono (by have := HG.out.2; omega)))))); clear g0 g1 hGl hfz; obtain ⟨g0, g1⟩ := hk9.two; have hGl := hk9.lt; have hfz := hk9.free 1; clear ho9 hb9 hg9 hk9)
              have HN : Hid (∃ rv rs', Bk (w9.setCell ⟨Gb, 1, none⟩ (.slice A9 n9 c9)) Gb 25 #[.slice nA nn nc, rv] ∧ Bk (w9.setCell ⟨Gb, 1, none⟩ (.slice A9 n9 c9)) Rb 25 #[.slice none 0 0, .slice none 0 0] ∧ ROwn (w9.setCell ⟨Gb, 1, none⟩ (.slice A9 n9 c9)) (Gb + 1) rv rs' ∧ rs' = (List.range (k + 1)).map (dRoot ws l) ∧ Below w6.heap.size w6 (w9.setCell ⟨Gb, 1, none⟩ (.slice A9 n9 c9)) ∧ Rb ≠ Gb) := by
                obtain ⟨h1, h2, h3, h4⟩ := H9.out
                refine Lib.hid ⟨_, _, by have := h2.set 1 (.slice A9 n9 c9); simpa using this, (Kept.set w9 Gb 1 _).bk h3 H0.out.2.2.2.2.2.1, (Kept.set w9 Gb 1 _).rowF h1 (fun j hj hh => by have := (World.ownsRow.lt h1 j hj).1; omega), ?_, ?_, H0.out.2.2.2.2.2.1⟩
                · rw [List.range_succ, List.map_append, ← H0.out.2.2.2.1, HXr.out]; rfl
                · exact h4.setCell (p := ⟨Gb, 1, none⟩) (show w6.heap.size ≤ Gb from Nat.le_of_eq HG.out.2.symm) _
              clear g0 g1 hGl hfz H9 H8
              go_roundw
              case rel => exact ⟨k + 1, by go_num, by omega, HN⟩
              case measure => simp [Go.RowKit.intOf]; omega
            · have p1 : ¬ (k : Int) < (R : Int) := by omega
              have hkR : k = R := by omega
              subst hkR
              obtain ⟨rA, rc, er⟩ := own_form e3
              obtain ⟨rn, hrn⟩ : ∃ k, k = rs'.length := ⟨_, rfl⟩
              rw [← hrn] at er
              subst er
              have H0 := Lib.hid (And.intro e1 (And.intro e2 (And.intro e3 (And.intro e4 (And.intro e5 (And.intro e6 hrn))))))
              obtain ⟨g0, g1⟩ := e1.two
              have hGl := e1.lt
              obtain ⟨q0, q1⟩ := e2.two
              have hRl := e2.lt
              have hfr0 := e2.free 0
              have hfr1 := e2.free 1
              clear e1 e2 e3 e4 e5 hS hk hrn
              go_wp2_with fail
              obtain ⟨V, hV⟩ : ∃ V, V = ((wr.setCell ⟨Rb, 0, none⟩ (.slice nA nn nc)).setCell ⟨Rb, 1, none⟩ (.slice rA rn rc)) := ⟨_, rfl⟩
              have kR : Bk V Rb 25 #[.slice nA nn nc, .slice rA rn rc] := by rw [hV]; exact two_set H0.out.2.1
              have kK : Kept (fun j => j = Rb) wr V := by
                rw [hV]
                exact (Kept.set wr Rb 0 _).trans (Kept.set _ Rb 1 _)
              have kB : Below w.heap.size w V := (H6.out.2.1.trans (H0.out.2.2.2.2.1.mono H6.out.2.1.size)).trans (kK.below (Nat.le_trans H6.out.2.1.size H0.out.2.2.2.2.1.size) (fun j hj => by have := HFr.out; omega))
              have hl := run_loadVar_row (P := Try.prog) V Rb 25 25 #[.slice nA nn nc, .slice rA rn rc] (0, 0) _ kR Try.underlying25 rfl (by kernel_rfl)
              rw [← hV]
              clear hV q0 q1 hRl hfr0 hfr1 g0 g1 hGl
              refine bodyPost_ret (res2 (p := 2) (u := 3) (by kernel_rfl) hl rfl rfl) rfl ?_
              rw [HE.out]
              obtain ⟨h1, h2, h3, h4, h5, h6, h7⟩ := H0.out
              have hN0 : NOwn wr w5.heap.size (.slice nA nn nc) xs := H6.out.2.2.2.1.below h5
              have hRb5 : Rb < w5.heap.size := HRb5.out
              have hNV : NOwn V w5.heap.size (.slice nA nn nc) xs := by
                refine hN0.grown (q := Rb) ⟨kK.os, kK.tape, kK.output, kK.size, fun j hj hn => kK.block j hj (fun e => hn (by rw [e]))⟩ (fun hm => ?_)
                have := blks_ge hN0 Rb hm
                omega
              have hRV : ROwn V (Gb + 1) (.slice rA rn rc) rs' := kK.rowF h3 (fun j hj hh => by have h9 := (World.ownsRow.lt h3 j hj).1; have := HSS.out.2.2.2.2.1; omega)
              obtain ⟨r1, r2, r3⟩ := hNV.rows
              obtain ⟨t1, t2, t3⟩ := hRV.rows
              refine .inr ⟨⟨nA, nc, rA, rc, xs, rs'⟩, l, ?_, ⟨r1, t1, r3, t3⟩, ?_, H6.out.2.2.2.2.1, ?_, ?_, kB, ?_, ?_⟩
              · show _ = Ending.returned (.tuple #[.agg #[.slice nA xs.length nc, .slice rA rs'.length rc], .int .i64 0])
                rw [← r2, ← t2]
                rfl
              · rw [← HX.out.1, ← HY.out.1, ← HY.out.2.1]; exact HOb.out.1
              · rw [← HY.out.1]; exact h4
              · rw [← HX.out.1, ← HY.out.1, ← HY.out.2.1]; exact HOb.out.2
              · show NOwn V w.heap.size (.slice nA xs.length nc) xs
                rw [← r2]
                exact hNV.mono HRw5.out
              · show ROwn V w.heap.size (.slice rA rs'.length rc) rs'
                rw [← t2]
                exact hRV.mono (by have := HG.out.1; omega)
        · have HBad := Lib.hid (show BadW ws from fun g g1 g2 e => by
            have h := (enc_read g1 g2).2
            rw [e, ← HX.out.1, ← HY.out.1] at h
            have h3 := h.2.2
            rw [← h.1, ← HY.out.2.1, HOb.out.1] at h3
            have h4 := h3.1
            injection h4 with h4
            rw [← h4] at h3
            exact hwl h3.2)
          have hwe : ¬ wellE ws b n = 0 := by rw [well_some HOb.out.1, if_neg hwl]; decide
          have HRn := Lib.hid (readNodes_bad w5 w2.heap.size s m v ws b n n H5.out.2.2 HX.out.2.1 hwe)
          obtain ⟨er, her⟩ : ∃ er, er = wellE ws b n := ⟨_, rfl⟩
          rw [← her] at HRn hwe
          have HEr := Lib.hid hwe
          have e1 : (er != 0) = true := by simpa using hwe
          clear hwl hwe her
          go_wp2_with fail
          refine Calls.mono HRn.out ?_
          rintro r w6 ⟨rfl, b6⟩
          have H6 := Lib.hid (show Bk w6 Rb 25 #[.slice none 0 0, .slice none 0 0] ∧ Below w.heap.size w w6 from ⟨H5.out.1.below b6 H5.out.1.lt, H5.out.2.1.trans (b6.mono H5.out.2.1.size)⟩)
          clear b6 H5 HRn
          obtain ⟨q0, q1⟩ := H6.out.1.two
          have hRl := H6.out.1.lt
          have hfr0 := H6.out.1.free 0
          have hfr1 := H6.out.1.free 1
          go_wp2_with fail
          obtain ⟨V, hV⟩ : ∃ V, V = ((w6.setCell ⟨Rb, 0, none⟩ (.slice none 0 0)).setCell ⟨Rb, 1, none⟩ (.slice none 0 0)) := ⟨_, rfl⟩
          have kR : Bk V Rb 25 #[.slice none 0 0, .slice none 0 0] := by rw [hV]; exact two_set H6.out.1
          have kB : Below w.heap.size w V := by rw [hV]; exact two_below H6.out.2 HFr.out
          have hl := run_loadVar_row (P := Try.prog) V Rb 25 25 #[.slice none 0 0, .slice none 0 0] (0, 0) _ kR Try.underlying25 rfl (by kernel_rfl)
          rw [← hV]
          clear hV q0 q1 hRl hfr0 hfr1
          refine bodyPost_ret (res2 (p := 2) (u := 3) (by kernel_rfl) hl rfl rfl) rfl ?_
          rw [HE.out]
          exact .inl ⟨er, HEr.out, rfl, kB, HBad.out⟩
    · have HBad := Lib.hid (show BadW ws from fun g g1 g2 e => by
        have h := (enc_read g1 g2).2
        rw [e, ← HX.out.1, ← HY.out.1] at h
        have h3 := h.2.1
        have h4 := h.1
        have h5 := HY.out.2.1
        omega)
      have HSo := Lib.hid (sof_out w4 (.pointer (some ⟨m, 0, none⟩)) b n n (bare_out w4 w2.heap.size m v ws b n n HM4.out (.inr (.inl ⟨by omega, by omega⟩))))
      clear hbn
      go_wp2_with fail
      refine Calls.mono HSo.out ?_
      rintro r w5 ⟨rfl, rfl⟩
      obtain ⟨q0, q1⟩ := H4.out.1.two
      have hRl := H4.out.1.lt
      have hfr0 := H4.out.1.free 0
      have hfr1 := H4.out.1.free 1
      go_wp2_with fail
      obtain ⟨V, hV⟩ : ∃ V, V = ((w5.setCell ⟨Rb, 0, none⟩ (.slice none 0 0)).setCell ⟨Rb, 1, none⟩ (.slice none 0 0)) := ⟨_, rfl⟩
      have kR : Bk V Rb 25 #[.slice none 0 0, .slice none 0 0] := by rw [hV]; exact two_set H4.out.1
      have kB : Below w.heap.size w V := by rw [hV]; exact two_below H4.out.2 HFr.out
      have hl := run_loadVar_row (P := Try.prog) V Rb 25 25 #[.slice none 0 0, .slice none 0 0] (0, 0) _ kR Try.underlying25 rfl (by kernel_rfl)
      rw [← hV]
      clear hV q0 q1 hRl hfr0 hfr1
      refine bodyPost_ret (res2 (p := 2) (u := 3) (by kernel_rfl) hl rfl rfl) rfl ?_
      rw [HE.out]
      exact .inl ⟨1, by decide, rfl, kB, HBad.out⟩
end Go.Proofs.Ytkkjnahjmomjgaa
/- image.putRoot. Conditions: a name that may be, a node that is there. -/
namespace Go.Proofs.Ytkkjnahjmomjgaa
set_option linter.unusedVariables false
set_option linter.unusedSimpArgs false
open Go.RowKit Go.Maps
set_option maxHeartbeats 4000000
set_option maxRecDepth 100000
theorem putRoot_c (w : World) (B s g S b t e a bb qb cq : Nat) (v : Value) (ws : List (BitVec 64)) (ns : List Nv) (h : PuAt w B s g v ws b t e S (.slice (some ⟨qb, 0, none⟩) (ns.length + 1) cq) (plI ns bb)) (r : Rv) (hgd : goodS r.s = true) (ho : okP ns.length r.t = true) (hend : endL ns bb ≤ 8192) (ha : a + 4 < ws.length) (h8 : ws.length ≤ 8192) :
    Calls Try.prog 29 #[.pointer (some ⟨g, 0, none⟩), .int .i64 (a : Int), r.v, .slice (some ⟨qb, 0, none⟩) (ns.length + 1) cq] w (fun r' w' => r' = .returned (.int .i64 0) ∧ PuAt w' B s g v ((putK ws (8 * a) (nameW r.s) (nameW r.s).length).set (a + 4) (pointW (placeL ns bb) r.t)) b t e S (.slice (some ⟨qb, 0, none⟩) (ns.length + 1) cq) (plI ns bb) ∧ Below B w w' ∧ Two w w' s v.ownBlock) := by
  obtain ⟨st, to⟩ := r
  simp only at hgd ho ⊢
  unfold Rv.v
  simp only
  obtain ⟨k, hk⟩ : ∃ k, k = nameW st := ⟨_, rfl⟩
  have hkw : nW k := by rw [hk]; exact nameW_len (goodS_size hgd).2
  have HFX := Lib.hid (fun W => show Calls Try.prog 67 #[.string st] W (RetP (.tuple #[nV k, .int .i64 0]) W) from by
    have h1 := fix_ok (bitsOf st) W (good_bits hgd)
    rw [strB_bits, ← nameW_pad, ← hk] at h1
    exact h1)
  rw [← hk]
  obtain ⟨arr, harr⟩ : ∃ arr, arr = nC k := ⟨_, rfl⟩
  unfold nV at HFX
  rw [← harr] at HFX
  have HA := Lib.hid harr
  have HS32 := Lib.hid (show arr.size = 32 from by rw [harr]; exact nC_size hkw)
  have HONE := Lib.hid (show arr.all (·.oneCell') = true from by rw [harr]; exact nC_one k)
  obtain ⟨za, hza⟩ : ∃ za, za = nC zN := ⟨_, rfl⟩
  have hzero := zeroN
  rw [← hza] at hzero
  have HZS := Lib.hid (show za.size = 32 from by rw [hza]; exact nC_size zN_w)
  obtain ⟨⟨p0, p1⟩, p2, y, p3, p4, p5⟩ := point_val ns bb to ho hend
  obtain ⟨x, hx⟩ : ∃ x, x = pointW (placeL ns bb) to := ⟨_, rfl⟩
  rw [← hx] at p5 ⊢
  obtain ⟨pn, hpn⟩ : ∃ pn, pn = to.toNat := ⟨_, rfl⟩
  have pI : to = (pn : Int) := by omega
  subst pI
  have hpc := h.row.cell p2
  rw [p3, ← hpn] at hpc
  unfold iV at hpc
  have HPc := Lib.hid hpc
  obtain ⟨NN, hNN⟩ : ∃ NN, NN = ns.length + 1 := ⟨_, rfl⟩
  have pN : (pn : Int) < (NN : Int) := by omega
  have pZ : (0 : Int) ≤ (pn : Int) := by omega
  have hqb : qb < w.heap.size ∧ S ≤ qb := ⟨h.row.ge.2, h.row.ge.1⟩
  rw [← hNN] at h ⊢
  obtain ⟨a8, ha8⟩ : ∃ a8, a8 = 8 * a := ⟨_, rfl⟩
  obtain ⟨a4, ha4⟩ : ∃ a4, a4 = a + 4 := ⟨_, rfl⟩
  rw [← ha8, ← ha4]
  have q1 : (a : Int) * 8 = (a8 : Int) := by omega
  have q2 : (a : Int) + 4 = (a4 : Int) := by omega
  have q3 : (a8 : Int) ≤ 65536 := by omega
  have q4 : (a4 : Int) ≤ 8192 := by omega
  have q5 : (y : Int) - 1 + 1 = (y : Int) := by omega
  have q6 : (y : Int) ≤ 8192 := by omega
  have q7 : (0 : Int) ≤ (a : Int) := by omega
  have hkl : k.length = 32 := hkw
  have HSB := Lib.hid (fun W (m : MemAt W B g v ws) (q : Nat) (hb : Bk W q 120 arr) (hq : some q ≠ v.ownBlock) => setBytes_in W B g v ws a8 (some ⟨q, 0, none⟩) 32 k (by omega) (by omega) m (nrd (harr ▸ hb) hb.lt) (fun _ x hx => by injection hx with hx; rw [← hx]; exact hq))
  have hpl : (putK ws a8 k k.length).length = ws.length := putK_len _ _ _ _
  have HSt := Lib.hid (fun W (m : MemAt W B g v (putK ws a8 k k.length)) => set_in W B g v (putK ws a8 k k.length) a4 x (by omega) (by omega) m)
  rw [p5] at HSt
  rw [hkl] at HSB
  have HL := Lib.hid (And.intro hpl (And.intro hkl hqb))
  have H0 := Lib.hid h
  have HVs := Lib.hid (fun i (hi : v.ownBlock = some i) => (h.sp.mem.row.lt i hi).2)
  clear h hgd ho hend ha h8 hk hkw harr hza p1 p2 p3 p4 p5 hx hpn hpc hNN hqb ha8 ha4 hkl hpl p0
  go_enter Try.func29, Try.ntmps29
  go_wp2_with fail
  obtain ⟨Rb, hRb⟩ : ∃ R, R = w.heap.size := ⟨_, rfl⟩
  obtain ⟨w1, hw1⟩ : ∃ W, W = w.alloc (.cells #[.string st, .int .i64 (pn : Int)] 56) := ⟨_, rfl⟩
  have hbk : Bk w1 Rb 56 #[.string st, .int .i64 (pn : Int)] := by rw [hw1, hRb]; exact Bk.new w _ _
  have b1 : Below w.heap.size w w1 := by rw [hw1]; exact Gw.alloc w _
  rw [← hw1, ← hRb]
  have HRb := Lib.hid hRb
  have H1 := Lib.hid (And.intro hbk b1)
  clear hw1 hRb hbk b1
  refine Calls.mono (HFX.out w1) ?_
  rintro r w2 ⟨rfl, b2⟩
  have H2 := Lib.hid (And.intro (H1.out.1.below b2 H1.out.1.lt) (H1.out.2.trans (b2.mono H1.out.2.size)))
  clear b2 H1
  have HQ2 := Lib.hid (Bk.new w2 120 za)
  have hl2 : w.heap.size ≤ w2.heap.size := H2.out.2.size
  have HB2 := Lib.hid (show Bk (w2.alloc (.cells za 120)) Rb 56 #[.string st, .int .i64 (pn : Int)] ∧ Below w.heap.size w (w2.alloc (.cells za 120)) ∧ Rb < w2.heap.size ∧ w.heap.size ≤ w2.heap.size from ⟨H2.out.1.alloc _, H2.out.2.trans ((Gw.alloc w2 _).mono hl2), H2.out.1.lt, hl2⟩)
  clear hl2 H2
  go_wp2_with (refine wp_storeN rfl _ _ rfl w2.heap.size arr rfl rfl 120 za HQ2.out HS32.out HZS.out HONE.out ?_; intro w3 k3 b3 o3; have H3 := Lib.hid (show Bk w3 w2.heap.size 120 arr ∧ Bk w3 Rb 56 #[.string st, .int .i64 (pn : Int)] ∧ Below w.heap.size w w3 ∧ some w2.heap.size ≠ v.ownBlock from ⟨k3, (o3 _ (by have := HB2.out.2.2.1; omega)).trans HB2.out.1, HB2.out.2.1.trans (b3 _ HB2.out.2.2.2), fun hh => by have := HVs.out _ hh.symm; have := HB2.out.2.2.2; omega⟩); clear k3 b3 o3)
  obtain ⟨Nb, hNb⟩ : ∃ q, q = w2.heap.size := ⟨_, rfl⟩
  rw [← hNb] at H3 ⊢
  have H4 := Lib.hid (H0.out.below H3.out.2.2.1)
  clear hNb HQ2 HB2
  refine Calls.mono (HSB.out w3 H4.out.sp.mem Nb H3.out.1 H3.out.2.2.2) ?_
  rintro r w5 ⟨rfl, m5, g5⟩
  rw [← HL.out.2.1] at m5
  have H5 := Lib.hid (show PuAt w5 B s g v (putK ws a8 k k.length) b t e S (.slice (some ⟨qb, 0, none⟩) NN cq) (plI ns bb) ∧ Below B w w5 ∧ Bk w5 Rb 56 #[.string st, .int .i64 (pn : Int)] ∧ w5.cell? ⟨qb, pn, none⟩ = some (.int .i64 ((y : Int) - 1)) ∧ qb < w5.heap.size ∧ Two w w5 s v.ownBlock from by
    have hsp := H4.out.sp.memTo m5 g5 HL.out.1
    have b35 : Below B w3 w5 := H4.out.sp.mem.own g5
    have hb0 : Below B w w3 := H3.out.2.2.1.mono H0.out.sp.mem.le
    refine ⟨H4.out.two hsp (Two.grown g5), hb0.trans b35, (Kept.grown g5).bk H3.out.2.1 (fun hh => ?_), ?_, ?_, (Two.below H3.out.2.2.1).trans (Two.grown g5)⟩
    · have := HVs.out _ hh; have := HRb.out; omega
    · rw [(Kept.grown g5).cell (p := ⟨qb, pn, none⟩) (Nat.lt_of_lt_of_le HL.out.2.2.1 H3.out.2.2.1.size) (fun hh => ?_), H3.out.2.2.1.cell (p := ⟨qb, pn, none⟩) HL.out.2.2.1]
      · exact HPc.out
      · have h9 : qb < S := H0.out.vs _ hh
        have := HL.out.2.2.2
        omega
    · exact Nat.lt_of_lt_of_le HL.out.2.2.1 (Nat.le_trans H3.out.2.2.1.size g5.size))
  clear m5 g5 H4 H3
  obtain ⟨g0, g1⟩ := H5.out.2.2.1.two
  have hRl := H5.out.2.2.1.lt
  have hpc := H5.out.2.2.2.1
  have hql := H5.out.2.2.2.2.1
  go_wp2_with fail
  refine Calls.mono (HSt.out w5 H5.out.1.sp.mem) ?_
  rintro r w6 ⟨rfl, m6, g6⟩
  have H6 := Lib.hid (show PuAt w6 B s g v ((putK ws a8 k k.length).set a4 x) b t e S (.slice (some ⟨qb, 0, none⟩) NN cq) (plI ns bb) ∧ Below B w w6 ∧ Two w w6 s v.ownBlock from
    ⟨H5.out.1.two (H5.out.1.sp.memTo m6 g6 List.length_set) (Two.grown g6), H5.out.2.1.trans (H5.out.1.sp.mem.own g6), H5.out.2.2.2.2.2.trans (Two.grown g6)⟩)
  clear m6 g6 g0 g1 hRl hpc hql H5
  go_wp2_with fail
  go_ret
  exact ⟨rfl, H6.out⟩
end Go.Proofs.Ytkkjnahjmomjgaa
/- A region that draws its order, some of whose operations store into boxes that it makes: by a fact for each operation. No conditions. -/
namespace Go.Proofs.Ytkkjnahjmomjgaa
set_option linter.unusedVariables false
set_option linter.unusedSimpArgs false
open Go.RowKit
section
variable {P : Program} {ops : Array Oper} {Q : Exit → Act → World → Prop} {G D : World → World → Prop} {F : Nat → Value → World → Prop} {a0 : Act} {w0 : World} {src : Nat → Nat}
/-- Each operation has a slot of its own, or none; it waits for elder ones alone; none defers. -/
def regGB (ops : Array Oper) (size : Nat) : Bool :=
  (List.range ops.size).all fun i => match ops[i]? with
    | none => false
    | some o =>
      (match o.dst with
       | none => true
       | some d => decide (d < size) && (List.range ops.size).all fun j => j == i || dstOf ops j != some d) &&
      (o.after.all fun e => !Region.binds .any e || decide (e.on < i)) &&
      (match o.op with | .defer _ => false | .select .. => false | _ => true)
def srcB (ops : Array Oper) (src : Nat → Nat) : Bool :=
  (List.range ops.size).all fun i => (src i == i && (dstOf ops i).isSome) || ((dstOf ops i).isNone && waitsB ops i (src i) && (dstOf ops (src i)).isSome)
/-- What operation i owes: its fact, of what it leaves, or of what another has left, and what it turns. -/
def OwesG (P : Program) (ops : Array Oper) (Q : Exit → Act → World → Prop) (G D : World → World → Prop) (F : Nat → Value → World → Prop) (src : Nat → Nat) (a0 : Act) (w0 : World) (i : Nat) : Prop :=
  ∀ (a : Act) (w : World), G w0 w → a.defers = a0.defers → a.tmps.size = a0.tmps.size →
    (∀ j, waitsB ops i j = true → src j = j → F j (valAt ops a j) w) →
    (∀ t, (∀ j, dstOf ops j = some t → waitsB ops j i = true) → a.tmps.getD t undef = a0.tmps.getD t undef) →
    wpOp P ops Q i (fun a' w' => ∃ v, a' = a.put (dstOf ops i) v ∧ D w w' ∧ F i (if src i = i then v else valAt ops a (src i)) w') a w
theorem regGB_at {size : Nat} (h : regGB ops size = true) {i : Nat} (hi : i < ops.size) : ∃ o, ops[i]? = some o ∧ (∀ d, o.dst = some d → d < size ∧ (∀ j, j < ops.size → j ≠ i → dstOf ops j ≠ some d)) ∧ (∀ e ∈ o.after, Region.binds .any e = true → e.on < i) := by
  unfold regGB at h
  rw [List.all_eq_true] at h
  have h1 := h i (List.mem_range.2 hi)
  cases ho : ops[i]? with
  | none => rw [ho] at h1; cases h1
  | some o =>
    rw [ho] at h1
    simp only [Bool.and_eq_true] at h1
    obtain ⟨⟨h1, h2⟩, _⟩ := h1
    refine ⟨o, rfl, fun d hd => ?_, fun e he hb => ?_⟩
    · rw [hd] at h1
      simp only [Bool.and_eq_true, decide_eq_true_eq, List.all_eq_true, List.mem_range, Bool.or_eq_true, beq_iff_eq, bne_iff_ne] at h1
      refine ⟨h1.1, fun j hj hne => ?_⟩
      rcases h1.2 j hj with h | h
      · exact absurd h hne
      · exact h
    · have := Array.all_eq_true_iff_forall_mem.1 h2 e he
      simpa [hb] using this
/-- What operation i owes, at the very state: its fact, of whatever it leaves. -/
def OwesD (P : Program) (ops : Array Oper) (Q : Exit → Act → World → Prop) (G D : World → World → Prop) (F : Nat → Value → World → Prop) (a0 : Act) (w0 : World) (i : Nat) : Prop :=
  ∀ (a : Act) (w : World), G w0 w → a.defers = a0.defers → a.tmps.size = a0.tmps.size →
    (∀ j, waitsB ops i j = true → F j (valAt ops a j) w) →
    (∀ t, (∀ j, dstOf ops j = some t → waitsB ops j i = true) → a.tmps.getD t undef = a0.tmps.getD t undef) →
    wpOp P ops Q i (fun a' w' => ∃ v, a' = a.put (dstOf ops i) v ∧ D w w' ∧ F i v w') a w

/-- An operation that runs whatever comes: by the operations js that it waits for. -/
theorem owes_ofD {i : Nat} {o : Oper} (js : List Nat) (ho : ops[i]? = some o) (hg : o.guard = none) (hsee : seesB ops i js = true)
    (hnd : match o.op with | .defer _ => False | .select .. => False | _ => True)
    (h : ∀ (vals : Nat → Value) (w : World), G w0 w → (∀ j ∈ js, F j (vals j) w) → ∀ K : Act → World → Prop, (∀ v w', D w w' → F i v w' → K ((putL ops vals js a0).put o.dst v) w') →
      Oper.wp P o (putL ops vals js a0) w K NoQ) : OwesD P ops Q G D F a0 w0 i := by
  intro a w hG hd hs hF hR
  unfold wpOp
  rw [ho]
  simp only [Region.wanted, hg, if_true]
  left
  have hsee' : (js.all (fun j => waitsB ops i j) = true) ∧ ∀ t ∈ (o.op.operands.toList.filterMap fun | .tmp t => some t | _ => none), js.any (fun j => dstOf ops j == some t) = true ∨ (List.range ops.size).all (fun j => dstOf ops j != some t || waitsB ops j i) = true := by
    unfold seesB at hsee
    rw [ho] at hsee
    simp only [Bool.and_eq_true, List.all_eq_true, Bool.or_eq_true] at hsee
    refine ⟨by rw [List.all_eq_true]; exact hsee.1, fun t ht => ?_⟩
    rcases hsee.2 t ht with h | h
    · exact .inl h
    · right; rw [List.all_eq_true]; simpa using h
  have hjs : ∀ j ∈ js, waitsB ops i j = true := List.all_eq_true.1 hsee'.1
  have ht : ∀ t ∈ (o.op.operands.toList.filterMap fun | .tmp t => some t | _ => none), a0.tmps.getD t undef = a.tmps.getD t undef ∨ ∃ j ∈ js, dstOf ops j = some t := by
    intro t ht
    rcases hsee'.2 t ht with h | h
    · right
      rw [List.any_eq_true] at h
      obtain ⟨j, hj, e⟩ := h
      exact ⟨j, hj, by simpa using e⟩
    · left
      refine (hR t fun j hj => ?_).symm
      rw [List.all_eq_true] at h
      have hlt : j < ops.size := by
        rcases Nat.lt_or_ge j ops.size with hl | hl
        · exact hl
        · unfold dstOf at hj; rw [Array.getElem?_eq_none hl] at hj; cases hj
      have := h j (List.mem_range.2 hlt)
      simpa [hj] using this
  have he : execOp (putL ops (valAt ops a) js a0).eval o = execOp a.eval o := by
    refine execOp_congr o (fun cs b e => by rw [e] at hnd; exact hnd) fun x hx => ?_
    cases x with
    | tmp t =>
      show (putL ops (valAt ops a) js a0).tmps.getD t undef = a.tmps.getD t undef
      exact putL_at a t js a0 hs.symm (ht t (List.mem_filterMap.2 ⟨.tmp t, by simpa using hx, rfl⟩))
    | _ => rfl
  have hsz : a.tmps.size = (putL ops (valAt ops a) js a0).tmps.size := by rw [putL_size, hs]
  have hdo : dstOf ops i = o.dst := by unfold dstOf; rw [ho]; rfl
  rw [hdo]
  refine wp_same (K1 := fun A' w' => ∃ v, A' = (putL ops (valAt ops a) js a0).put o.dst v ∧ D w w' ∧ F i v w') he hsz hnd ?_ ?_
  · exact h (valAt ops a) w hG (fun j hj => hF j (hjs j hj)) _ (fun v w' g f => ⟨v, rfl, v, rfl, g, f⟩)
  · rintro v w' ⟨v', e, g, f⟩
    exact ⟨v', put_eq e hsz, g, f⟩

theorem owes_vD {i : Nat} (op : Op) (type : TypeId) (js : List Nat) (ho : (ops[i]?).map (fun o => (o.op, o.type)) = some (op, type)) (hg : (ops[i]?).bind (·.guard) = none) (hsee : seesB ops i js = true)
    (hnd : callsB op = true)
    (h : ∀ (vals : Nat → Value) (w : World) (ρ : Operand → Value), G w0 w → (∀ j ∈ js, F j (vals j) w) → (∀ t, ρ (.tmp t) = (putL ops vals js a0).tmps.getD t undef) → (∀ c, ρ (.const c) = c) → (∀ f, ρ (.func f) = .func (.func f) #[] #[]) →
      OpV P op type ρ w fun v w' => D w w' ∧ F i v w') : OwesD P ops Q G D F a0 w0 i := by
  obtain ⟨o, h1, h2, h3⟩ := isOp_mk ho
  subst h2 h3
  rw [h1] at hg
  exact owes_ofD js h1 hg hsee (by revert hnd; cases o.op <;> simp [callsB]) fun vals w hG hF K hK => opv_wp (h vals w (putL ops vals js a0).eval hG hF (fun t => rfl) (fun c => rfl) (fun f => rfl)) fun v w' hr => hK v w' hr.1 hr.2
/-- A copy of a slot that is as it was. -/
theorem owes_mvD (hD : ∀ w, D w w) {i : Nat} (t : Tmp) {c : Value} (ho : ((ops[i]?).map fun o => copies t o.op) = some true) (hg : (ops[i]?).bind (·.guard) = none) (hsee : seesB ops i [] = true) (hv : a0.tmps.getD t undef = c) (hF : ∀ w, F i c w) :
    OwesD P ops Q G D F a0 w0 i := by
  cases hi : ops[i]? with
  | none => rw [hi] at ho; cases ho
  | some o =>
    rw [hi] at ho
    simp only [Option.map_some, Option.some.injEq] at ho
    refine owes_vD o.op o.type [] (by rw [hi]; rfl) hg hsee (by revert ho; cases o.op <;> simp [copies, callsB]) fun vals w ρ hG hF' hρ hc hf => ?_
    exact opv_val (copies_run ho) ⟨hD _, by rw [hρ t]; show F i (a0.tmps.getD t undef) w; rw [hv]; exact hF w⟩
/-- A copy of what operation j leaves. -/
theorem owes_mvjD (hD : ∀ w, D w w) {i : Nat} (j : Nat) (t : Tmp) (ho : ((ops[i]?).map fun o => copies t o.op) = some true) (hg : (ops[i]?).bind (·.guard) = none) (hsee : seesB ops i [j] = true) (hd : dstOf ops j = some t) (hl : t < a0.tmps.size) (hF : ∀ v w, F j v w → F i v w) :
    OwesD P ops Q G D F a0 w0 i := by
  cases hi : ops[i]? with
  | none => rw [hi] at ho; cases ho
  | some o =>
    rw [hi] at ho
    simp only [Option.map_some, Option.some.injEq] at ho
    refine owes_vD o.op o.type [j] (by rw [hi]; rfl) hg hsee (by revert ho; cases o.op <;> simp [copies, callsB]) fun vals w ρ hG hF' hρ hc hf => ?_
    refine opv_val (copies_run ho) ⟨hD _, ?_⟩
    rw [hρ t]
    unfold putL putL
    rw [hd, put_same _ _ _ hl]
    exact hF _ _ (hF' j (.head _))

/-- An operation with a slot of its own. -/
theorem OwesG.mk {i : Nat} (hs0 : src i = i) (hsw : ∀ j, waitsB ops i j = true → src j = j) (h : OwesD P ops Q G D F a0 w0 i) : OwesG P ops Q G D F src a0 w0 i := by
  intro a w hG hd hs hF hR
  refine wpOp_mono ?_ (h a w hG hd hs (fun j hj => hF j hj (hsw j hj)) hR)
  rintro a' w' ⟨v, e, hg, hf⟩
  exact ⟨v, e, hg, by rw [if_pos hs0]; exact hf⟩
/-- An operation without a slot, whose fact is of what another has left. -/
theorem OwesG.store {i : Nat} {o : Oper} (js : List Nat) (ho : ops[i]? = some o) (hg : o.guard = none) (hdn : o.dst = none) (hs0 : src i ≠ i) (hmem : src i ∈ js) (hjs : ∀ j ∈ js, src j = j) (hsee : seesB ops i js = true)
    (hnd : match o.op with | .defer _ => False | .select .. => False | _ => True)
    (h : ∀ (vals : Nat → Value) (w : World), G w0 w → (∀ j ∈ js, F j (vals j) w) → ∀ K : Act → World → Prop, (∀ v w', D w w' → F i (vals (src i)) w' → K ((putL ops vals js a0).put o.dst v) w') →
      Oper.wp P o (putL ops vals js a0) w K NoQ) : OwesG P ops Q G D F src a0 w0 i := by
  intro a w hG hd hs hF hR
  unfold wpOp
  rw [ho]
  simp only [Region.wanted, hg, if_true]
  left
  have hsee' : (js.all (fun j => waitsB ops i j) = true) ∧ ∀ t ∈ (o.op.operands.toList.filterMap fun | .tmp t => some t | _ => none), js.any (fun j => dstOf ops j == some t) = true ∨ (List.range ops.size).all (fun j => dstOf ops j != some t || waitsB ops j i) = true := by
    unfold seesB at hsee
    rw [ho] at hsee
    simp only [Bool.and_eq_true, List.all_eq_true, Bool.or_eq_true] at hsee
    refine ⟨by rw [List.all_eq_true]; exact hsee.1, fun t ht => ?_⟩
    rcases hsee.2 t ht with h | h
    · exact .inl h
    · right; rw [List.all_eq_true]; simpa using h
  have hjs2 : ∀ j ∈ js, waitsB ops i j = true := List.all_eq_true.1 hsee'.1
  have ht : ∀ t ∈ (o.op.operands.toList.filterMap fun | .tmp t => some t | _ => none), a0.tmps.getD t undef = a.tmps.getD t undef ∨ ∃ j ∈ js, dstOf ops j = some t := by
    intro t ht
    rcases hsee'.2 t ht with h | h
    · right
      rw [List.any_eq_true] at h
      obtain ⟨j, hj, e⟩ := h
      exact ⟨j, hj, by simpa using e⟩
    · left
      refine (hR t fun j hj => ?_).symm
      rw [List.all_eq_true] at h
      have hlt : j < ops.size := by
        rcases Nat.lt_or_ge j ops.size with hl | hl
        · exact hl
        · unfold dstOf at hj; rw [Array.getElem?_eq_none hl] at hj; cases hj
      have := h j (List.mem_range.2 hlt)
      simpa [hj] using this
  have he : execOp (putL ops (valAt ops a) js a0).eval o = execOp a.eval o := by
    refine execOp_congr o (fun cs b e => by rw [e] at hnd; exact hnd) fun x hx => ?_
    cases x with
    | tmp t =>
      show (putL ops (valAt ops a) js a0).tmps.getD t undef = a.tmps.getD t undef
      exact putL_at a t js a0 hs.symm (ht t (List.mem_filterMap.2 ⟨.tmp t, by simpa using hx, rfl⟩))
    | _ => rfl
  have hsz : a.tmps.size = (putL ops (valAt ops a) js a0).tmps.size := by rw [putL_size, hs]
  have hdo : dstOf ops i = o.dst := by unfold dstOf; rw [ho]; rfl
  rw [hdo]
  refine wp_same (K1 := fun A' w' => ∃ v, A' = (putL ops (valAt ops a) js a0).put o.dst v ∧ D w w' ∧ F i (valAt ops a (src i)) w') he hsz hnd ?_ ?_
  · exact h (valAt ops a) w hG (fun j hj => hF j (hjs2 j hj) (hjs j hj)) _ (fun v w' g f => ⟨v, rfl, v, rfl, g, f⟩)
  · rintro v w' ⟨v', e, g, f⟩
    exact ⟨v', put_eq e hsz, g, by rw [if_neg hs0]; exact f⟩

theorem OwesG.weak {i : Nat} {Pr : World → Prop} (h : OwesG P ops Q G D F src a0 w0 i) : OwesG P ops Q (fun w w' => G w w' ∧ Pr w') D F src a0 w0 i := fun a w hG hd hs hF hR => h a w hG.1 hd hs hF hR
theorem region_factsG {id : Nat} {DD : Nat → World → World → Prop} (Pre : Nat → World → Prop) (hpre0 : ∀ i, i < ops.size → Pre i w0.drew) (hpres : ∀ i k, i < ops.size → k < ops.size → k ≠ i → ∀ a b, G w0 a → Pre k a → DD i a b → Pre k b) (hm : P.follows .mixedOrders = true) (hrefl : G w0 w0.drew) (htrans : ∀ i, i < ops.size → ∀ a b, G w0 a → DD i a b → G w0 b) (hmono : ∀ i j, i < ops.size → j < ops.size → i ≠ j → ∀ v a b, F j v a → DD i a b → F j v b)
    (hreg : regGB ops a0.tmps.size = true) (hsrc : srcB ops src = true) (howes : ∀ i, i < ops.size → OwesG P ops Q (fun w w' => G w w' ∧ Pre i w') (DD i) F src a0 w0 i)
    (fin : ∀ (vals : Nat → Value) (w : World), G w0 w → (∀ j, j < ops.size → F j (vals (src j)) w) → Q .normal (putL ops vals (List.range ops.size) a0) w) :
    (Code.region id ops true).wp P Q a0 w0 := by
  have main : ∀ (fuel : Nat) (listed : Array Bool) (a : Act) (w : World), listed.size = ops.size →
      ((List.range ops.size).filter fun j => !listed.getD j true).length ≤ fuel →
      G w0 w → (∀ j, j < ops.size → listed.getD j true = false → Pre j w) → a.defers = a0.defers → a.tmps.size = a0.tmps.size →
      (∀ j, j < ops.size → listed.getD j true = true → F j (valAt ops a (src j)) w) →
      (∀ t, (∀ j, j < ops.size → listed.getD j true = true → dstOf ops j ≠ some t) → a.tmps.getD t undef = a0.tmps.getD t undef) →
      (∀ j, j < ops.size → listed.getD j true = true → ∀ k, waitsB ops j k = true → listed.getD k false = true) →
      wpAny P .any ops Q fuel listed a w := by
    intro fuel
    -- where nothing may come up all has come up
    have allUp : ∀ (listed : Array Bool), listed.size = ops.size → Region.ready .any ops listed = [] → ∀ j, j < ops.size → listed.getD j true = true := by
      intro listed hsz hr j
      induction j using Nat.strongRecOn with
      | ind j ih =>
        intro hj
        cases hl : listed.getD j true with
        | true => rfl
        | false =>
          exfalso
          obtain ⟨o, ho, _, he⟩ := regGB_at hreg hj
          have : j ∈ Region.ready .any ops listed := mem_ready.2 ⟨hl, o, ho, fun e hem hb => by
            have hlt := he e hem hb
            have := ih e.on hlt (by omega)
            rw [Array.getD_eq_getD_getElem?] at this ⊢
            rw [Array.getElem?_eq_getElem (by omega)] at this ⊢
            exact this⟩
          rw [hr] at this
          cases this
    have done : ∀ (listed : Array Bool) (a : Act) (w : World), (∀ j, j < ops.size → listed.getD j true = true) → G w0 w → a.defers = a0.defers → a.tmps.size = a0.tmps.size →
        (∀ j, j < ops.size → listed.getD j true = true → F j (valAt ops a (src j)) w) →
        (∀ t, (∀ j, j < ops.size → listed.getD j true = true → dstOf ops j ≠ some t) → a.tmps.getD t undef = a0.tmps.getD t undef) → Q .normal a w := by
      intro listed a w hall hG hd hs hF hR
      have := fin (valAt ops a) w hG (fun j hj => hF j hj (hall j hj))
      rw [putL_whole a (List.range ops.size) a0 hs.symm hd.symm] at this
      · exact this
      · intro t
        by_cases e : ∃ j, j < ops.size ∧ dstOf ops j = some t
        · obtain ⟨j, hj, hjd⟩ := e
          exact .inr ⟨j, List.mem_range.2 hj, hjd⟩
        · left
          exact (hR t fun j hj _ he => e ⟨j, hj, he⟩).symm
    induction fuel with
    | zero =>
      intro listed a w hsz hcnt hG hPre hd hs hF hR hC
      have hall : ∀ j, j < ops.size → listed.getD j true = true := by
        intro j hj
        cases hl : listed.getD j true with
        | true => rfl
        | false =>
          have : j ∈ (List.range ops.size).filter fun j => !listed.getD j true := List.mem_filter.2 ⟨List.mem_range.2 hj, by simp only [hl]; rfl⟩
          rw [List.eq_nil_of_length_eq_zero (Nat.le_zero.1 hcnt)] at this
          cases this
      refine ⟨?_, done listed a w hall hG hd hs hF hR⟩
      apply List.eq_nil_iff_forall_not_mem.2
      intro j hj
      obtain ⟨h1, o, ho, _⟩ := mem_ready.1 hj
      have hlt : j < ops.size := (Array.getElem?_eq_some_iff.1 ho).1
      rw [hall j hlt] at h1
      cases h1
    | succ fuel ih =>
      intro listed a w hsz hcnt hG hPre hd hs hF hR hC
      refine ⟨fun hr => done listed a w (allUp listed hsz hr) hG hd hs hF hR, fun i hi => ?_⟩
      obtain ⟨hun, o, ho, hall⟩ := mem_ready.1 hi
      have hlt : i < ops.size := (Array.getElem?_eq_some_iff.1 ho).1
      have hlz : i < listed.size := by omega
      have hw : ∀ j, waitsB ops i j = true → j < ops.size ∧ listed.getD j true = true := by
        intro j hj
        obtain ⟨o', ho', e, he, hb, rfl⟩ := waits_some hj
        rw [ho] at ho'
        injection ho' with ho'
        subst ho'
        have h1 := hall e he hb
        rw [Array.getD_eq_getD_getElem?] at h1
        rcases Nat.lt_or_ge e.on listed.size with hl | hl
        · refine ⟨by omega, ?_⟩
          rw [Array.getD_eq_getD_getElem?]
          rw [Array.getElem?_eq_getElem hl] at h1 ⊢
          exact h1
        · rw [Array.getElem?_eq_none hl] at h1; cases h1
      have hstep := howes i hlt a w ⟨hG, hPre i hlt hun⟩ hd hs (fun j hj hsj => by have h1 := hF j (hw j hj).1 (hw j hj).2; rw [hsj] at h1; exact h1) (fun t ht => hR t fun j hj hl he => by
        have h1 := hC j hj hl i (ht j he)
        rw [Array.getD_eq_getD_getElem?, Array.getElem?_eq_getElem hlz] at h1 hun
        simp only [Option.getD_some] at h1 hun
        rw [h1] at hun; cases hun)
      refine wpOp_mono ?_ hstep
      rintro a' w' ⟨v, rfl, hg, hf⟩
      have hset : ∀ j b, (listed.setIfInBounds i true).getD j b = if j = i then true else listed.getD j b := by
        intro j b
        rw [Array.getD_eq_getD_getElem?, Array.getD_eq_getD_getElem?, Array.getElem?_setIfInBounds]
        by_cases e : i = j
        · subst e; simp [hlz]
        · rw [if_neg e, if_neg (fun h => e h.symm)]
      obtain ⟨o2, ho2, hd2, _⟩ := regGB_at hreg hlt
      have hdo : dstOf ops i = o2.dst := by unfold dstOf; rw [ho2]; rfl
      have hput : ∀ k, k < ops.size → k ≠ i → valAt ops (a.put (dstOf ops i) v) k = valAt ops a k := by
        intro k hk hne
        unfold valAt
        cases hkd : dstOf ops k with
        | none => rfl
        | some dk =>
          simp only
          refine put_other _ _ _ _ fun h => ?_
          exact (hd2 dk (by rw [← hdo]; exact h)).2 k hk hne hkd
      have hsr : ∀ k, k < ops.size → (src k = k ∧ (dstOf ops k).isSome = true) ∨ (dstOf ops k = none ∧ waitsB ops k (src k) = true ∧ (dstOf ops (src k)).isSome = true) := by
        intro k hk
        unfold srcB at hsrc
        rw [List.all_eq_true] at hsrc
        have := hsrc k (List.mem_range.2 hk)
        simp only [Bool.or_eq_true, Bool.and_eq_true, beq_iff_eq, Option.isNone_iff_eq_none] at this
        rcases this with h | h
        · exact .inl h
        · exact .inr ⟨h.1.1, h.1.2, h.2⟩
      refine ih (listed.setIfInBounds i true) (a.put (dstOf ops i) v) w' (by simp [hsz]) ?_ (htrans i hlt _ _ hG hg) (fun j hj hl => by
        by_cases e : j = i
        · rw [hset, if_pos e] at hl; cases hl
        · rw [hset, if_neg e] at hl
          exact hpres i j hlt hj e _ _ hG (hPre j hj hl) hg) (by rw [← hd]; cases dstOf ops i <;> rfl) (by rw [put_size, hs]) ?_ ?_ ?_
      · have := filter_less (p := fun j => !listed.getD j true) (q := fun j => !(listed.setIfInBounds i true).getD j true) (i := i) (l := List.range ops.size) (fun x hx => by
          rw [hset] at hx
          by_cases e : x = i
          · rw [if_pos e] at hx; cases hx
          · rw [if_neg e] at hx; exact hx) (List.mem_range.2 hlt) (by rw [hun]; rfl) (by rw [hset, if_pos rfl]; rfl)
        omega
      · intro j hj hl
        by_cases e : j = i
        · subst e
          rcases hsr j hj with ⟨h1, h2⟩ | ⟨h1, h2, h3⟩
          · rw [if_pos h1] at hf
            rw [h1]
            obtain ⟨d, hdj⟩ := Option.isSome_iff_exists.1 h2
            have h3 : valAt ops (a.put (dstOf ops j) v) j = v := by
              unfold valAt
              rw [hdj]
              simp only
              exact put_same _ _ _ (by rw [hs]; exact (hd2 d (by rw [← hdo]; exact hdj)).1)
            rw [h3]
            exact hf
          · have hne : src j ≠ j := fun e => by rw [e, h1] at h3; cases h3
            rw [if_neg hne] at hf
            rw [hput _ (hw _ h2).1 hne]
            exact hf
        · rw [hset, if_neg e] at hl
          have h1 := hmono i j hlt hj (fun h => e h.symm) _ _ _ (hF j hj hl) hg
          have hne : src j ≠ i ∧ src j < ops.size := by
            rcases hsr j hj with ⟨h2, _⟩ | ⟨_, h2, h3⟩
            · rw [h2]; exact ⟨e, hj⟩
            · constructor
              · intro h
                have h4 := hC j hj hl _ h2
                rw [h, Array.getD_eq_getD_getElem?, Array.getElem?_eq_getElem hlz] at h4
                rw [Array.getD_eq_getD_getElem?, Array.getElem?_eq_getElem hlz] at hun
                simp only [Option.getD_some] at h4 hun
                rw [h4] at hun; cases hun
              · rcases Nat.lt_or_ge (src j) ops.size with h | h
                · exact h
                · unfold dstOf at h3; rw [Array.getElem?_eq_none h] at h3; cases h3
          rw [hput _ hne.2 hne.1]
          exact h1
      · intro t ht
        have h1 : dstOf ops i ≠ some t := fun h => ht i hlt (by rw [hset, if_pos rfl]) h
        rw [put_other _ _ _ _ h1]
        exact hR t fun j hj hl => ht j hj (by rw [hset]; split <;> simp_all)
      · intro j hj hl k hk
        rw [hset]
        by_cases e : k = i
        · rw [if_pos e]
        · rw [if_neg e]
          by_cases e2 : j = i
          · subst e2
            have h1 := (hw k hk)
            have h2 : k < listed.size := by omega
            have h3 := h1.2
            rw [Array.getD_eq_getD_getElem?, Array.getElem?_eq_getElem h2] at h3 ⊢
            exact h3
          · rw [hset, if_neg e2] at hl
            exact hC j hj hl k hk
  refine wp_region_any hm ?_
  refine main ops.size (Array.replicate ops.size false) a0 w0.drew (by simp) ?_ hrefl (fun j hj _ => hpre0 j hj) rfl rfl ?_ ?_ ?_
  · exact Nat.le_trans (List.length_filter_le _ _) (by simp)
  · intro j hj hl
    rw [Array.getD_eq_getD_getElem?, Array.getElem?_eq_getElem (by simpa using hj)] at hl
    simp at hl
  · intro t _; rfl
  · intro j hj hl
    rw [Array.getD_eq_getD_getElem?, Array.getElem?_eq_getElem (by simpa using hj)] at hl
    simp at hl
def putO (vals : Nat → Value) : List (Option Tmp) → Nat → Act → Act
  | [], _, a => a
  | d :: ds, k, a => putO vals ds (k + 1) (a.put d (vals k))
theorem putO_eq {ops : Array Oper} (vals : Nat → Value) : ∀ (ds : List (Option Tmp)) (n k : Nat) (a : Act), (List.range' k n).map (dstOf ops) = ds → putL ops vals (List.range' k n) a = putO vals ds k a
  | [], n, k, a, h => by
    have : n = 0 := by simpa using congrArg List.length h
    subst this; rfl
  | d :: ds, 0, k, a, h => by simp at h
  | d :: ds, n + 1, k, a, h => by
    rw [List.range'_succ, List.map_cons] at h
    injection h with h1 h2
    rw [List.range'_succ]
    unfold putL putO
    rw [h1]
    exact putO_eq vals ds n (k + 1) _ h2
def relOf (sts : List (Nat × (World → World → Prop))) (i : Nat) : World → World → Prop := match sts.find? (fun p => p.1 == i) with
  | some p => p.2
  | none => Gw
def srcOf (ss : List (Nat × Nat)) (i : Nat) : Nat := match ss.find? (fun p => p.1 == i) with
  | some p => p.2
  | none => i
theorem region_byG {id : Nat} (Fs : List (Value → World → Prop)) (sts : List (Nat × (World → World → Prop))) (ss : List (Nat × Nat)) (ds : List (Option Tmp))
    (hm : P.follows .mixedOrders = true)
    (hreg : regGB ops a0.tmps.size = true) (hsrc : srcB ops (srcOf ss) = true) (hds : (List.range' 0 ops.size).map (dstOf ops) = ds)
    (hpure : ∀ f ∈ Fs, ∀ v a b, f v a → Gw a b → f v b)
    (hst : ∀ p ∈ sts, (∀ a b, Below w0.heap.size w0 a → p.2 a b → Below w0.heap.size w0 b) ∧ ∀ f ∈ Fs.eraseIdx p.1, ∀ v a b, f v a → p.2 a b → f v b)
    (howes : AllN (fun i => OwesG P ops Q (fun w w' => Below w.heap.size w w') (relOf sts i) (fun j => Fs.getD j fun _ _ => True) (srcOf ss) a0 w0 i) ops.size 0)
    (fin : ∀ (vals : Nat → Value) (w : World), Below w0.heap.size w0 w → (∀ j, j < ops.size → (Fs.getD j fun _ _ => True) (vals (srcOf ss j)) w) → Q .normal (putO vals ds 0 a0) w) :
    (Code.region id ops true).wp P Q a0 w0 := by
  have hrel : ∀ i, relOf sts i = Gw ∨ ∃ p ∈ sts, p.1 = i ∧ relOf sts i = p.2 := by
    intro i
    unfold relOf
    cases h : sts.find? (fun p => p.1 == i) with
    | none => exact .inl rfl
    | some p => exact .inr ⟨p, List.mem_of_find?_eq_some h, by have := List.find?_some h; simpa using this, rfl⟩
  refine region_factsG (G := fun w w' => Below w.heap.size w w') (DD := relOf sts) (src := srcOf ss) (fun _ _ => True) (fun _ _ => trivial) (fun _ _ _ _ _ _ _ _ _ _ => trivial) hm (Gw.drew _) ?_ ?_ hreg hsrc (fun i hi => (howes.at_ _ _ i (by omega) (by omega)).weak) ?_
  · intro i _ a b hG hD
    rcases hrel i with h | ⟨p, hp, _, h⟩
    · rw [h] at hD; exact hG.trans (Below.mono hD hG.size)
    · rw [h] at hD; exact (hst p hp).1 a b hG hD
  · intro i j _ _ hne v a b h g
    rw [List.getD_eq_getElem?_getD] at h ⊢
    cases hj : Fs[j]? with
    | none => exact trivial
    | some f =>
      rw [hj] at h
      rcases hrel i with hr | ⟨p, hp, e, hr⟩
      · rw [hr] at g; exact hpure f (List.mem_of_getElem? hj) v a b h g
      · rw [hr] at g
        refine (hst p hp).2 f ?_ v a b h g
        rw [e]
        refine List.mem_eraseIdx_iff_getElem?.2 ⟨j, fun h => hne h.symm, hj⟩
  · intro vals w hG hF
    rw [List.range_eq_range', putO_eq vals ds ops.size 0 a0 hds]
    exact fin vals w hG hF
/-- As region_byG, with any relation to the start. -/
theorem region_byK {id : Nat} (Fs : List (Value → World → Prop)) (sts : List (Nat × (World → World → Prop))) (ss : List (Nat × Nat)) (ds : List (Option Tmp))
    (G0 : World → Prop) (hm : P.follows .mixedOrders = true) (hd0 : G0 w0.drew) (hpg : ∀ a b, G0 a → Gw a b → G0 b) (mt : Nat) (Pre : World → Prop) (hp0 : Pre w0.drew) (hpp : ∀ a b, Pre a → Gw a b → Pre b) (hmt : ∀ p ∈ sts, p.1 = mt)
    (hreg : regGB ops a0.tmps.size = true) (hsrc : srcB ops (srcOf ss) = true) (hds : (List.range' 0 ops.size).map (dstOf ops) = ds)
    (hpure : ∀ f ∈ Fs, ∀ v a b, f v a → Gw a b → f v b)
    (hst : ∀ p ∈ sts, (∀ a b, G0 a → p.2 a b → G0 b) ∧ ∀ f ∈ Fs.eraseIdx p.1, ∀ v a b, f v a → p.2 a b → f v b)
    (howes : AllN (fun i => OwesG P ops Q (fun _ w' => G0 w' ∧ (if i = mt then Pre w' else True)) (relOf sts i) (fun j => Fs.getD j fun _ _ => True) (srcOf ss) a0 w0 i) ops.size 0)
    (fin : ∀ (vals : Nat → Value) (w : World), G0 w → (∀ j, j < ops.size → (Fs.getD j fun _ _ => True) (vals (srcOf ss j)) w) → Q .normal (putO vals ds 0 a0) w) :
    (Code.region id ops true).wp P Q a0 w0 := by
  have hrel : ∀ i, relOf sts i = Gw ∨ ∃ p ∈ sts, p.1 = i ∧ relOf sts i = p.2 := by
    intro i
    unfold relOf
    cases h : sts.find? (fun p => p.1 == i) with
    | none => exact .inl rfl
    | some p => exact .inr ⟨p, List.mem_of_find?_eq_some h, by have := List.find?_some h; simpa using this, rfl⟩
  refine region_factsG (G := fun _ w' => G0 w') (DD := relOf sts) (src := srcOf ss) (fun i w => if i = mt then Pre w else True) (fun i _ => by by_cases e : i = mt; rw [if_pos e]; exact hp0; rw [if_neg e]; trivial) (fun i k _ _ hne a b _ h g => by
    by_cases e : k = mt
    · rw [if_pos e] at h ⊢
      rcases hrel i with hr | ⟨p, hp, e2, hr⟩
      · rw [hr] at g; exact hpp a b h g
      · exact absurd ((hmt p hp).symm.trans e2) (fun h2 => hne (e.trans h2))
    · rw [if_neg e]; trivial) hm hd0 ?_ ?_ hreg hsrc (fun i hi => howes.at_ _ _ i (by omega) (by omega)) ?_
  · intro i _ a b hG hD
    rcases hrel i with h | ⟨p, hp, _, h⟩
    · rw [h] at hD; exact hpg a b hG hD
    · rw [h] at hD; exact (hst p hp).1 a b hG hD
  · intro i j _ _ hne v a b h g
    rw [List.getD_eq_getElem?_getD] at h ⊢
    cases hj : Fs[j]? with
    | none => exact trivial
    | some f =>
      rw [hj] at h
      rcases hrel i with hr | ⟨p, hp, e, hr⟩
      · rw [hr] at g; exact hpure f (List.mem_of_getElem? hj) v a b h g
      · rw [hr] at g
        refine (hst p hp).2 f ?_ v a b h g
        rw [e]
        refine List.mem_eraseIdx_iff_getElem?.2 ⟨j, fun h => hne h.symm, hj⟩
  · intro vals w hG hF
    rw [List.range_eq_range', putO_eq vals ds ops.size 0 a0 hds]
    exact fin vals w hG hF
/-- A value, and what holds of the world. -/
def AndV (c : Value) (P : World → Prop) (v : Value) (w : World) : Prop := v = c ∧ P w
theorem AndV.mono {c v : Value} {P : World → Prop} {a b : World} (hP : ∀ a b, P a → Gw a b → P b) (h : AndV c P v a) (g : Gw a b) : AndV c P v b := ⟨h.1, hP a b h.2 g⟩
end
end Go.Proofs.Ytkkjnahjmomjgaa
