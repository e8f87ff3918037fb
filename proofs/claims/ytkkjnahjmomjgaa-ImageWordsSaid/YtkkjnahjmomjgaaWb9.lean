/- Texts joined: ApZ EnC EnD EnE EnG EnF ImD DcF. -/
import Derived.Test.YtkkjnahjmomjgaaWb8
import Derived.Test.YtkkjnahjmomjgaaBel
import Derived.Test.YtkkjnahjmomjgaaBitsB
import Derived.Lib.AppendZeros
import Derived.Lib.AppendZerosOnto
import Derived.Lib.ConvBytes
import Derived.Laws.IdiomStrings
import Derived.Test.YtkkjnahjmomjgaaMmC
import Derived.Test.YtkkjnahjmomjgaaBitsA
/- 'append(row, make([]T, k)...)' on a row of the call's own: k zeros behind it. Conditions: lengths. -/
namespace Go.Proofs.Ytkkjnahjmomjgaa
set_option linter.unusedVariables false
set_option linter.unusedSimpArgs false
open Go.RowKit
end Go.Proofs.Ytkkjnahjmomjgaa
/- 'append([]byte(s), make([]byte, k)...)': on a row that a conversion has made. Conditions: lengths. -/
namespace Go.Proofs.Ytkkjnahjmomjgaa
set_option linter.unusedVariables false
set_option linter.unusedSimpArgs false
open Go.RowKit
set_option maxHeartbeats 1000000
/-- A row with zeros behind it. -/
def ZeroP (w : World) (base : Nat) (n : Nat) (cs : List Value) (v : Value) (w' : World) : Prop :=
  ∃ q c, v = .slice (some ⟨q, 0, none⟩) n c ∧ base ≤ q ∧ q < w'.heap.size ∧ (∀ (j : Nat) (u : Value), cs[j]? = some u → w'.cell? ⟨q, j, none⟩ = some u) ∧ Below base w w'
end Go.Proofs.Ytkkjnahjmomjgaa
/- loamref17.Encode: the region that makes a name's bytes. Conditions: the name's length. -/
namespace Go.Proofs.Ytkkjnahjmomjgaa
set_option linter.unusedVariables false
set_option linter.unusedSimpArgs false
open Go.RowKit
set_option maxHeartbeats 4000000
set_option maxRecDepth 100000
/-- A row that a conversion of a string has made. -/
def CvV (s : ByteArray) (B : Nat) (v : Value) (w : World) : Prop :=
  ∃ g cur, v = .slice (some ⟨g, 0, none⟩) s.size cur.size ∧ B ≤ g ∧ w.heap[g]? = some (.cells cur 5 (cur.size, cur.size + 1)) ∧ s.size ≤ cur.size ∧ cur.toList.take s.size = s.data.toList.map (fun b => Value.int .u8 b.toNat)
theorem CvV.mono {s : ByteArray} {B : Nat} {v : Value} {a b : World} (h : CvV s B v a) (hg : Below a.heap.size a b) : CvV s B v b := by
  obtain ⟨g, cur, e, hB, hh, h2⟩ := h
  exact ⟨g, cur, e, hB, (hg.block g (Array.getElem?_eq_some_iff.1 hh).1).trans hh, h2⟩
end Go.Proofs.Ytkkjnahjmomjgaa
/- loamref17.Need, Encode. Conditions: a graph of few nodes. -/
namespace Go.Proofs.Ytkkjnahjmomjgaa
set_option linter.unusedVariables false
set_option linter.unusedSimpArgs false
open Go.RowKit Go.Maps
set_option maxHeartbeats 4000000
set_option maxRecDepth 100000
end Go.Proofs.Ytkkjnahjmomjgaa
/- loamref17.Encode: the append that fills a name up; the row of the first two words. Conditions: lengths. -/
namespace Go.Proofs.Ytkkjnahjmomjgaa
set_option linter.unusedVariables false
set_option linter.unusedSimpArgs false
open Go.RowKit
set_option maxHeartbeats 2000000
end Go.Proofs.Ytkkjnahjmomjgaa
/- loamref17.Encode. Conditions: a graph of few nodes. -/
namespace Go.Proofs.Ytkkjnahjmomjgaa
set_option linter.unusedVariables false
set_option linter.unusedSimpArgs false
open Go.RowKit Go.Maps
set_option maxHeartbeats 4000000
set_option maxRecDepth 100000
/-- What Encode answers. -/
def EncP (g : Gv) (w : World) (r : Ending) (w' : World) : Prop :=
  (∃ er : Int, er ≠ 0 ∧ r = .returned (.tuple #[.slice none 0 0, .int .i64 er]) ∧ Below w.heap.size w w') ∨
  (ckG g = 0 ∧ endL g.n (2 + 5 * g.r.length) ≤ 8192 ∧ ∃ v, r = .returned (.tuple #[v, .int .i64 0]) ∧ Ow u64v 57 w' w.heap.size v (encW g.n g.r) ∧ Below w.heap.size w w')
/-- What Encode answers of a graph: 0, or why not. -/
def errG (g : Gv) : Int := if ckG g = 0 then (if 8192 < endL g.n (2 + 5 * g.r.length) then 3 else 0) else ckG g
def EncX (g : Gv) (w : World) (r : Ending) (w' : World) : Prop :=
  (errG g ≠ 0 ∧ r = .returned (.tuple #[.slice none 0 0, .int .i64 (errG g)]) ∧ Below w.heap.size w w') ∨
  (ckG g = 0 ∧ endL g.n (2 + 5 * g.r.length) ≤ 8192 ∧ ∃ v, r = .returned (.tuple #[v, .int .i64 0]) ∧ Ow u64v 57 w' w.heap.size v (encW g.n g.r) ∧ Below w.heap.size w w')
end Go.Proofs.Ytkkjnahjmomjgaa
/- image.Need, image.base, image.putRoot. Conditions: lengths. -/
namespace Go.Proofs.Ytkkjnahjmomjgaa
set_option linter.unusedVariables false
set_option linter.unusedSimpArgs false
open Go.RowKit Go.Maps
set_option maxHeartbeats 4000000
set_option maxRecDepth 100000
theorem ibase_c (R : Nat) (hR : R ≤ 1000000) (w : World) : Calls Try.prog 25 #[.int .i64 (R : Int)] w (RetP (.int .i64 ((2 + 5 * R : Nat) : Int)) w) := by
  obtain ⟨q, hq⟩ : ∃ q, q = 2 + 5 * R := ⟨_, rfl⟩
  rw [← hq]
  obtain ⟨m, hm⟩ : ∃ m, m = 5 * R := ⟨_, rfl⟩
  have q1 : 5 * (R : Int) = (m : Int) := by omega
  have q2 : 2 + (m : Int) = (q : Int) := by omega
  have q3 : (q : Int) ≤ 6000000 := by omega
  have q4 : (m : Int) ≤ 6000000 := by omega
  have q5 : (R : Int) ≤ 1000000 := by omega
  clear hq hm hR
  go_enter Try.func25, Try.ntmps25
  go_wp2_with fail
  go_ret
  exact ⟨rfl, Below.refl _ _⟩
theorem small_words {g : Gv} (h : g.Small) : 0 ≤ wordsL g.n ∧ wordsL g.n ≤ 300000000 := by
  have h1 := wordsL_le g.n
  have h2 := h.1
  omega
theorem ind1 (Q : Exit → Act → World → Prop) (a0 : Act) (w : World) (G N M c c2 : Nat) (A A2 : Option Addr) (z : Int) (hGl : G < w.heap.size) (g0 : w.cell? ⟨G, 0, none⟩ = some (.slice A N c)) (g1 : w.cell? ⟨G, 1, none⟩ = some (.slice A2 M c2)) (b0 : Nat) (hb0 : (b0 : Int) ≤ 6000000) (hbs : Hid (∀ W, Calls Try.prog 25 #[.int .i64 (M : Int)] W (RetP (.int .i64 (b0 : Int)) W))) (z0 : 0 ≤ z) (z1 : z ≤ 300000000) (hw : Hid (∀ W, Below w.heap.size w W → Calls Try.prog 36 #[.agg #[.slice A N c, .slice A2 M c2]] W (RetP (.int .i64 z) W))) (hsz : a0.tmps.size = 10) (sl1 : a0.tmps.getD 1 undef = .pointer (some ⟨G, 0, none⟩))
    (fin : ∀ (vals : Nat → Value) (w1 : World), Below w.heap.size w w1 → (IsV (.int .i64 ((b0 : Int) + z))) (vals 7) w1 → Q .normal (putD vals [3, 4, 5, 6, 7, 8, 9, 2] 0 a0) w1) :
    (Code.region 1 (regIn Try.f14 1) true).wp Try.prog Q a0 w := by
  refine region_by (G := fun w w1 => Below w.heap.size w w1) [IsV (.pointer (some ⟨G, 1, none⟩)),
    IsV (.slice A2 M c2),
    IsV (.int .i64 (M : Int)),
    IsV (.int .i64 (b0 : Int)),
    IsV (.agg #[.slice A N c, .slice A2 M c2]),
    IsV (.int .i64 z),
    IsV (.int .i64 ((b0 : Int) + z)),
    IsV (.int .i64 ((b0 : Int) + z))]
    [3, 4, 5, 6, 7, 8, 9, 2] (by kernel_rfl) (Gw.drew _) Gw.trans (by rw [hsz]; kernel_rfl) (by kernel_rfl) ?_ ?_ ?_
  · intro f hf
    simp only [List.mem_cons, List.not_mem_nil, or_false] at hf
    rcases hf with rfl | rfl | rfl | rfl | rfl | rfl | rfl | rfl <;> intro v a b h g <;> first | exact IsV.mono h
  · refine ⟨?_, ?_, ?_, ?_, ?_, ?_, ?_, ?_, trivial⟩
    · refine owes_v (Go.Op.fieldAddr 25 (Go.Operand.tmp 1) 1) 0 [] (by kernel_rfl) (by kernel_rfl) (by kernel_rfl) rfl fun vals w1 ρ hG hF hρ hcst hfun => ?_
      have e1 : ρ (.tmp 1) = .pointer (some ⟨G, 0, none⟩) := ((hρ 1).trans (slotO [] (by kernel_rfl))).trans sl1
      clear hρ hF hcst hfun sl1 fin
      exact opv_val (by go_simp <;> rfl) ⟨gw_self _, rfl⟩
    · refine owes_v (Go.Op.load 23 (Go.Operand.tmp 3)) 23 [0] (by kernel_rfl) (by kernel_rfl) (by kernel_rfl) rfl fun vals w1 ρ hG hF hρ hcst hfun => ?_
      have e3 : ρ (.tmp 3) = .pointer (some ⟨G, 1, none⟩) := ((hρ 3).trans (slotJ [0] (by rw [hsz]; decide) (by kernel_rfl))).trans (hF 0 (by decide))
      have kk := (hG.cell (p := ⟨G, 1, none⟩) hGl).trans g1
      clear hρ hF hcst hfun sl1 fin
      exact opv_val (by go_simp <;> rfl) ⟨gw_self _, rfl⟩
    · refine owes_v (Go.Op.call { callee := Go.Callee.builtin Go.Builtin.len, args := #[Go.Operand.tmp 4], argTypes := #[23] }) 3 [1] (by kernel_rfl) (by kernel_rfl) (by kernel_rfl) rfl fun vals w1 ρ hG hF hρ hcst hfun => ?_
      have e4 : ρ (.tmp 4) = .slice A2 M c2 := ((hρ 4).trans (slotJ [1] (by rw [hsz]; decide) (by kernel_rfl))).trans (hF 1 (by decide))
      clear hρ hF hcst hfun sl1 fin
      exact opv_val (by go_simp <;> rfl) ⟨gw_self _, rfl⟩
    · refine owes_v (Go.Op.call { callee := Go.Callee.value (Go.Operand.func 25), args := #[Go.Operand.tmp 5], argTypes := #[3] }) 3 [2] (by kernel_rfl) (by kernel_rfl) (by kernel_rfl) rfl fun vals w1 ρ hG hF hρ hcst hfun => ?_
      have e5 : ρ (.tmp 5) = .int .i64 (M : Int) := ((hρ 5).trans (slotJ [2] (by rw [hsz]; decide) (by kernel_rfl))).trans (hF 2 (by decide))
      clear hρ hF hcst sl1 fin
      exact opv_enter (by go_simp <;> rfl) (of_ret (hbs.out w1))
    · refine owes_v (Go.Op.load 25 (Go.Operand.tmp 1)) 25 [] (by kernel_rfl) (by kernel_rfl) (by kernel_rfl) rfl fun vals w1 ρ hG hF hρ hcst hfun => ?_
      have e1 : ρ (.tmp 1) = .pointer (some ⟨G, 0, none⟩) := ((hρ 1).trans (slotO [] (by kernel_rfl))).trans sl1
      have k0 := (hG.cell (p := ⟨G, 0, none⟩) hGl).trans g0; have k1 := (hG.cell (p := ⟨G, 1, none⟩) hGl).trans g1
      clear hρ hF hcst hfun sl1 fin
      exact opv_val (by go_simp <;> rfl) ⟨gw_self _, rfl⟩
    · refine owes_v (Go.Op.call { callee := Go.Callee.value (Go.Operand.func 36), args := #[Go.Operand.tmp 7], argTypes := #[25] }) 3 [4] (by kernel_rfl) (by kernel_rfl) (by kernel_rfl) rfl fun vals w1 ρ hG hF hρ hcst hfun => ?_
      have e7 : ρ (.tmp 7) = .agg #[.slice A N c, .slice A2 M c2] := ((hρ 7).trans (slotJ [4] (by rw [hsz]; decide) (by kernel_rfl))).trans (hF 4 (by decide))
      clear hρ hF hcst sl1 fin
      exact opv_enter (by go_simp <;> rfl) (of_ret (hw.out w1 hG))
    · refine owes_v (Go.Op.binOp Go.BinOp.add 3 (Go.Operand.tmp 6) (Go.Operand.tmp 8) 3) 3 [3, 5] (by kernel_rfl) (by kernel_rfl) (by kernel_rfl) rfl fun vals w1 ρ hG hF hρ hcst hfun => ?_
      have e6 : ρ (.tmp 6) = .int .i64 (b0 : Int) := ((hρ 6).trans (slotJ [3, 5] (by rw [hsz]; decide) (by kernel_rfl))).trans (hF 3 (by decide))
      have e8 : ρ (.tmp 8) = .int .i64 z := ((hρ 8).trans (slotJ [3, 5] (by rw [hsz]; decide) (by kernel_rfl))).trans (hF 5 (by decide))
      have kw0 : IntKind.i64.wrap (((b0 : Int) + z)) = ((b0 : Int) + z) := wrapIn (by omega) (by omega)
      clear hρ hF hcst hfun sl1 fin
      exact opv_val (by go_simp <;> rfl) ⟨gw_self _, rfl⟩
    · exact owes_mvj 6 9 (by kernel_rfl) (by kernel_rfl) (by kernel_rfl) (by kernel_rfl) (by rw [hsz]; decide) (fun v w h => h)
  · intro vals w1 hG hF
    exact fin vals w1 hG (hF 7 (by decide +kernel))
theorem ineed_c (w : World) (g : Gv) (hg : g.At w w.heap.size) (hs : g.Small) : Calls Try.prog 14 #[g.v] w (RetP (.int .i64 (((2 + 5 * g.r.length : Nat) : Int) + wordsL g.n)) w) := by
  have HW := Lib.hid (fun W (b : Below w.heap.size w W) => gwords_c W g (hg.up b) hs)
  obtain ⟨z0, z1⟩ := small_words hs
  obtain ⟨z, hz⟩ : ∃ z, z = wordsL g.n := ⟨_, rfl⟩
  rw [← hz] at HW z0 z1 ⊢
  have hM := hs.2.1
  obtain ⟨A, ca, A2, ca2, ns, rs⟩ := g
  obtain ⟨N, hN⟩ : ∃ N, N = ns.length := ⟨_, rfl⟩
  obtain ⟨M, hMM⟩ : ∃ M, M = rs.length := ⟨_, rfl⟩
  unfold Gv.v Gv.vn Gv.vr at HW ⊢
  simp only at HW hM ⊢
  rw [← hMM] at HW hM ⊢
  rw [← hN] at HW ⊢
  have HBs := Lib.hid (fun W => ibase_c M hM W)
  obtain ⟨b0, hb0⟩ : ∃ b0, b0 = 2 + 5 * M := ⟨_, rfl⟩
  rw [← hb0] at HBs ⊢
  have hbI : (b0 : Int) ≤ 6000000 := by omega
  clear hg hs hz hN hMM hM hb0
  go_enter Try.func14, Try.ntmps14
  go_wp2_with fail
  obtain ⟨G, hG⟩ : ∃ G, G = w.heap.size := ⟨_, rfl⟩
  obtain ⟨w1, hw1⟩ : ∃ W, W = w.alloc (.cells #[.slice A N ca, .slice A2 M ca2] 25) := ⟨_, rfl⟩
  have hbk : Bk w1 G 25 #[.slice A N ca, .slice A2 M ca2] := by rw [hw1, hG]; exact Bk.new w _ _
  have b1 : Below w.heap.size w w1 := by rw [hw1]; exact Gw.alloc w _
  rw [← hw1, ← hG]
  have HW1 := Lib.hid (fun W (b : Below w1.heap.size w1 W) => HW.out W (b1.trans (b.mono b1.size)))
  have hGl := hbk.lt
  have H1 := Lib.hid b1
  obtain ⟨g0, g1⟩ := hbk.two
  clear hw1 hG hbk b1 HW
  refine ind1 _ _ _ G N M ca ca2 A A2 z hGl g0 g1 b0 hbI HBs z0 z1 (Lib.hid (fun W b => (HW1.out W b).mono fun r w' h => h)) rfl ?_ ?_
  · rfl
  intro vals w2 hG2 h2
  unfold IsV at h2
  simp only [putD, Act.put, List.setIfInBounds_toArray, List.set_cons_zero, List.set_cons_succ, h2]
  have H2 := Lib.hid (H1.out.trans (hG2.mono H1.out.size))
  clear hG2 h2
  go_wp2_with fail
  go_ret
  exact ⟨rfl, H2.out⟩
/-- What places[p] and 1 are. -/
theorem point_val (ns : List Nv) (b : Nat) (p : Int) (h : okP ns.length p = true) (hb : endL ns b ≤ 8192) : (0 ≤ p ∧ p ≤ (ns.length : Int)) ∧ ∃ (h2 : p.toNat < (plI ns b).length) (y : Nat), (plI ns b)[p.toNat] = (y : Int) - 1 ∧ y ≤ 8192 ∧ U64 (pointW (placeL ns b) p) = (y : Int) := by
  by_cases h0 : p = 0
  · subst h0
    exact ⟨by omega, by rw [plI_len]; show 0 < _; omega, 0, rfl, by omega, rfl⟩
  · have hh : 1 ≤ p ∧ p ≤ (ns.length : Int) := by
      unfold okP hasG at h
      simpa [h0] using h
    have hk : p.toNat - 1 < ns.length := by omega
    have e := plI_at ns b (p.toNat - 1) hk
    rw [show p.toNat - 1 + 1 = p.toNat from by omega] at e
    obtain ⟨hl, he⟩ := List.getElem?_eq_some_iff.1 e
    have hpl := placeL_at ns b (p.toNat - 1) hk
    have hm : endL (ns.take (p.toNat - 1)) b ∈ placeL ns b := by
      rw [← hpl, List.getD_eq_getElem?_getD, List.getElem?_eq_getElem (by rw [placeL_len]; exact hk)]
      exact List.getElem_mem _
    have hlt := placeL_lt ns b _ hm
    refine ⟨⟨by omega, hh.2⟩, hl, endL (ns.take (p.toNat - 1)) b + 1, by rw [he]; omega, by omega, ?_⟩
    unfold pointW
    rw [if_neg h0, hpl]
    exact ofNat_U64 _ (by omega)
end Go.Proofs.Ytkkjnahjmomjgaa
/- image.read. Conditions: at most 8192 words. -/
namespace Go.Proofs.Ytkkjnahjmomjgaa
set_option linter.unusedVariables false
set_option linter.unusedSimpArgs false
open Go.RowKit Go.Maps
set_option maxHeartbeats 8000000
set_option maxRecDepth 100000
/-- Words that are no graph's. -/
def BadW (ws : List (BitVec 64)) : Prop := ∀ g : Gv, ckG g = 0 → endL g.n (2 + 5 * g.r.length) ≤ 8192 → encW g.n g.r ≠ ws
def nR (ws : List (BitVec 64)) : Nat := (ws.getD 1 0#64).toNat % 65536
theorem objF_of (ws : List (BitVec 64)) (top : Nat) : ∀ (n a : Nat) (l : List Nat), foundN ws top n a = (l, none) → objF ws top n a = some l
  | 0, a, l, h => by
    have h : (([] : List Nat), (none : Option Nat)) = (l, none) := h
    injection h with h
    rw [← h]
    rfl
  | n + 1, a, l, h => by
    have e : objF ws top (n + 1) a = if a < top then (if goodX (ws.getD a 0#64) (top - a) = true then (objF ws top n (a + szX (ws.getD a 0#64))).map (a :: ·) else none) else some [] := rfl
    rw [e]
    unfold foundN at h
    by_cases h1 : a < top
    · rw [if_pos h1] at h ⊢
      by_cases h2 : goodX (ws.getD a 0#64) (top - a) = true
      · rw [if_pos h2] at h ⊢
        injection h with h3 h4
        rw [objF_of ws top n _ (foundN ws top n (a + szX (ws.getD a 0#64))).1 (by rw [← h4])]
        rw [← h3]
        rfl
      · rw [if_neg h2] at h
        injection h with _ h4
        cases h4
    · rw [if_neg h1] at h ⊢
      injection h with h3
      rw [← h3]
/-- What an image of a graph has, as read finds it. -/
theorem enc_read {g : Gv} (h : ckG g = 0) (ht : endL g.n (2 + 5 * g.r.length) ≤ 8192) : 2 ≤ (encW g.n g.r).length ∧ nR (encW g.n g.r) = g.r.length ∧ 2 + 5 * g.r.length ≤ (encW g.n g.r).length ∧ objF (encW g.n g.r) (encW g.n g.r).length ((encW g.n g.r).length + 1) (2 + 5 * g.r.length) = some (placeL g.n (2 + 5 * g.r.length)) ∧ (placeL g.n (2 + 5 * g.r.length)).all (wellN (encW g.n g.r) (placeL g.n (2 + 5 * g.r.length))) = true := by
  obtain ⟨h1, h2, h3⟩ := ckG_ok h
  have hlen := encW_len g.n g.r (fun r hr => (goodS_size (h3 r hr).1).2)
  have hge := endL_ge g.n (2 + 5 * g.r.length)
  obtain ⟨f1, f2⟩ := enc_found h1 h3 ht
  refine ⟨by omega, ?_, by omega, objF_of _ _ _ _ _ f1, (allE_nil _ _ _).1 f2⟩
  have e : (encW g.n g.r).getD 1 0#64 = BitVec.ofNat 64 (g.r.length + endL g.n (2 + 5 * g.r.length) * 65536) := rfl
  unfold nR
  rw [e, BitVec.toNat_ofNat]
  omega
def ReadP (w : World) (ws : List (BitVec 64)) (r : Ending) (w' : World) : Prop :=
  (∃ er : Int, er ≠ 0 ∧ r = .returned (.tuple #[.agg #[.slice none 0 0, .slice none 0 0], .int .i64 er]) ∧ Below w.heap.size w w' ∧ BadW ws) ∨
  (∃ (g : Gv) (l : List Nat), r = .returned (.tuple #[g.v, .int .i64 0]) ∧ g.At w' w'.heap.size ∧ objF ws ws.length (ws.length + 1) (2 + 5 * nR ws) = some l ∧ g.n.map normN = l.map (dNode ws l) ∧ g.r = (List.range (nR ws)).map (dRoot ws l) ∧ 2 + 5 * nR ws ≤ ws.length ∧ Below w.heap.size w w' ∧ NOwn w' w.heap.size g.vn g.n ∧ ROwn w' w.heap.size g.vr g.r)
theorem read_c (w : World) (A : Option Addr) (c : Nat) (ws : List (BitVec 64)) (hr : Rd u64v w w.heap.size A ws) (h8 : ws.length ≤ 8192) :
    Calls Try.prog 38 #[.slice A ws.length c] w (ReadP w ws) := by
  obtain ⟨E, hE⟩ : ∃ E, E = ReadP w ws := ⟨_, rfl⟩
  rw [← hE]
  have HE := Lib.hid hE
  obtain ⟨n, hn⟩ : ∃ n, n = ws.length := ⟨_, rfl⟩
  have nI : (n : Int) ≤ 8192 := by omega
  have n0 : (0 : Int) ≤ (n : Int) := by omega
  have HX := Lib.hid (And.intro hn (And.intro h8 hr))
  by_cases h2 : n < 2
  · have k2 : (n : Int) < 2 := by omega
    have HBad := Lib.hid (show BadW ws from fun g g1 g2 e => by have := (enc_read g1 g2).1; rw [e] at this; omega)
    rw [← hn]
    clear hE hr hn h8 h2
    go_enter Try.func38, Try.ntmps38
    go_wp2_with fail
    obtain ⟨Rb, hRb⟩ : ∃ R, R = w.heap.size := ⟨_, rfl⟩
    obtain ⟨V, hV⟩ : ∃ V, V = w.alloc (.cells #[.slice none 0 0, .slice none 0 0] 25) := ⟨_, rfl⟩
    have kR : Bk V Rb 25 #[.slice none 0 0, .slice none 0 0] := by rw [hV, hRb]; exact Bk.new w _ _
    have kB : Below w.heap.size w V := by rw [hV]; exact Gw.alloc w _
    have hl := run_loadVar_row (P := Try.prog) V Rb 25 25 #[.slice none 0 0, .slice none 0 0] (0, 0) _ kR Try.underlying25 rfl (by kernel_rfl)
    rw [← hRb, ← hV]
    refine bodyPost_ret (res2 (p := 2) (u := 3) (by kernel_rfl) hl rfl rfl) rfl ?_
    rw [HE.out]
    exact .inl ⟨2, by decide, rfl, kB, HBad.out⟩
  · have k2 : ¬ (n : Int) < 2 := by omega
    obtain ⟨ad, rfl, hadl, hc1⟩ := hr 1 (by omega)
    obtain ⟨x, hx⟩ : ∃ x, x = ws[1] := ⟨_, rfl⟩
    rw [← hx] at hc1
    have hxe : ws.getD 1 0#64 = x := by rw [hx, List.getD_eq_getElem?_getD, List.getElem?_eq_getElem (by omega)]; rfl
    obtain ⟨R, hR⟩ : ∃ R, R = nR ws := ⟨_, rfl⟩
    have hRx : U64 (fieldB x 0 16) = (R : Int) := by rw [field_nR, ← hxe]; rw [hR]; rfl
    have hR6 : R < 65536 := by rw [hR]; unfold nR; exact Nat.mod_lt _ (by decide)
    have HFi := Lib.hid (fun W => field_c x 0 16 W)
    rw [hRx] at HFi
    have HOf := Lib.hid (fun W (b : Below w.heap.size w W) => of_in W (some ad) c ws ((hr.below b).more b.size) h8)
    rw [← hn] at HOf ⊢
    have HBs := Lib.hid (ibase_c R (by omega))
    obtain ⟨b, hb⟩ : ∃ b, b = 2 + 5 * R := ⟨_, rfl⟩
    rw [← hb] at HBs
    have RI : (R : Int) ≤ 65535 := by omega
    have R0 : (0 : Int) ≤ (R : Int) := by omega
    have bI : (b : Int) ≤ 400000 := by omega
    have n1 : (1 : Int) < (n : Int) := by omega
    obtain ⟨xv, hxv⟩ : ∃ xv, xv = U64 x := ⟨_, rfl⟩
    have hc1' : w.cell? ⟨ad.block, ad.off + 1, none⟩ = some (.int .u64 xv) := by rw [hxv]; exact hc1
    rw [← hxv] at HFi
    have HY := Lib.hid (And.intro hR (And.intro hb hR6))
    have hadl' : ad.block < w.heap.size := hadl
    clear hE hr hn h8 h2 hx hxe hRx hR hb hR6 hc1 hxv hadl
    go_enter Try.func38, Try.ntmps38
    go_wp2_with fail
    obtain ⟨Rb, hRb⟩ : ∃ R, R = w.heap.size := ⟨_, rfl⟩
    obtain ⟨w1, hw1⟩ : ∃ W, W = w.alloc (.cells #[.slice none 0 0, .slice none 0 0] 25) := ⟨_, rfl⟩
    have hbk : Bk w1 Rb 25 #[.slice none 0 0, .slice none 0 0] := by rw [hw1, hRb]; exact Bk.new w _ _
    have b1 : Below w.heap.size w w1 := by rw [hw1]; exact Gw.alloc w _
    rw [← hw1, ← hRb]
    have HFr := Lib.hid (Nat.le_of_eq hRb.symm)
    have H1 := Lib.hid (And.intro hbk b1)
    clear hw1 hRb hbk b1
    refine Calls.mono (HFi.out w1) ?_
    rintro r w2 ⟨rfl, hb2⟩
    have H2 := Lib.hid (show Bk w2 Rb 25 #[.slice none 0 0, .slice none 0 0] ∧ Below w.heap.size w w2 from ⟨H1.out.1.below (hb2.below _) H1.out.1.lt, H1.out.2.trans (hb2.below _)⟩)
    clear hb2 H1 HFi hc1' hadl'
    go_wp2_with fail
    refine Calls.mono (HOf.out w2 H2.out.2) ?_
    rintro r w3 ⟨m, v, rfl, hm, b3⟩
    have H3 := Lib.hid (show Bk w3 Rb 25 #[.slice none 0 0, .slice none 0 0] ∧ Below w.heap.size w w3 from ⟨H2.out.1.below b3 H2.out.1.lt, H2.out.2.trans (b3.mono H2.out.2.size)⟩)
    have HMm := Lib.hid hm
    clear b3 H2 HOf hm
    go_wp2_with fail
    refine Calls.mono (HBs.out w3) ?_
    rintro r w4 ⟨rfl, b4⟩
    have H4 := Lib.hid (show Bk w4 Rb 25 #[.slice none 0 0, .slice none 0 0] ∧ Below w.heap.size w w4 from ⟨H3.out.1.below b4 H3.out.1.lt, H3.out.2.trans (b4.mono H3.out.2.size)⟩)
    have HM4 := Lib.hid (HMm.out.below b4)
    clear b4 H3 HBs HMm
    by_cases hbn : b ≤ n
    · cases hob : objF ws n (n + 1) b with
      | none =>
        have HBad := Lib.hid (show BadW ws from fun g g1 g2 e => by
          have h := (enc_read g1 g2).2
          rw [e, ← HX.out.1, ← HY.out.1] at h
          have h3 := h.2.2.1
          rw [← h.1, ← HY.out.2.1, hob] at h3
          cases h3)
        have HSo := Lib.hid (sof_none w4 w2.heap.size m v ws b n n HM4.out hbn (Nat.le_refl _) (by rw [← HX.out.1]; exact Nat.le_refl _) (by have := HX.out.2.1; omega) hob)
        clear hob hbn
        go_wp2_with fail
        refine Calls.mono HSo.out ?_
        rintro r w5 ⟨rfl, b5⟩
        have H5 := Lib.hid (show Bk w5 Rb 25 #[.slice none 0 0, .slice none 0 0] ∧ Below w.heap.size w w5 from ⟨H4.out.1.below b5 H4.out.1.lt, H4.out.2.trans (b5.mono H4.out.2.size)⟩)
        clear b5 H4 HSo
        obtain ⟨q0, q1⟩ := H5.out.1.two
        have hRl := H5.out.1.lt
        have hfr0 := H5.out.1.free 0
        have hfr1 := H5.out.1.free 1
        go_wp2_with fail
        obtain ⟨V, hV⟩ : ∃ V, V = ((w5.setCell ⟨Rb, 0, none⟩ (.slice none 0 0)).setCell ⟨Rb, 1, none⟩ (.slice none 0 0)) := ⟨_, rfl⟩
        have kR : Bk V Rb 25 #[.slice none 0 0, .slice none 0 0] := by rw [hV]; exact two_set H5.out.1
        have kB : Below w.heap.size w V := by rw [hV]; exact two_below H5.out.2 HFr.out
        have hl := run_loadVar_row (P := Try.prog) V Rb 25 25 #[.slice none 0 0, .slice none 0 0] (0, 0) _ kR Try.underlying25 rfl (by kernel_rfl)
        rw [← hV]
        clear hV q0 q1 hRl hfr0 hfr1
        refine bodyPost_ret (res2 (p := 2) (u := 3) (by kernel_rfl) hl rfl rfl) rfl ?_
        rw [HE.out]
        exact .inl ⟨2, by decide, rfl, kB, HBad.out⟩
      | some l =>
        have HSo := Lib.hid (sof_some w4 w2.heap.size m v ws b n n HM4.out hbn (Nat.le_refl _) (by rw [← HX.out.1]; exact Nat.le_refl _) (by have := HX.out.2.1; omega) l hob)
        have HOb := Lib.hid (And.intro hob hbn)
        clear hob hbn
        go_wp2_with fail
        refine Calls.mono HSo.out ?_
        rintro r w5 ⟨s, rfl, sp5, b5⟩
        have H5 := Lib.hid (show Bk w5 Rb 25 #[.slice none 0 0, .slice none 0 0] ∧ Below w.heap.size w w5 ∧ SpAt w5 w2.heap.size s m v ws b n n from ⟨H4.out.1.below b5 H4.out.1.lt, H4.out.2.trans (b5.mono H4.out.2.size), sp5⟩)
        clear b5 H4 HSo sp5 HM4
        by_cases hwl : l.all (wellN ws l) = true
        · have HRn := Lib.hid (readNodes_c w5 w2.heap.size s m v ws b n n H5.out.2.2 HX.out.2.1 l HOb.out.1 hwl)
          clear hwl
          go_wp2_with fail
          refine Calls.mono HRn.out ?_
          rintro r w6 ⟨nv, mb, xs, rfl, no6, hxs, mp6, b6⟩
          obtain ⟨nA, nc, enA⟩ := nown_form no6
          obtain ⟨nn, hnn⟩ : ∃ k, k = xs.length := ⟨_, rfl⟩
          rw [← hnn] at enA
          subst enA
          have H6 := Lib.hid (show Bk w6 Rb 25 #[.slice none 0 0, .slice none 0 0] ∧ Below w.heap.size w w6 ∧ MemAt w6 w2.heap.size m v ws ∧ NOwn w6 w5.heap.size (.slice nA nn nc) xs ∧ xs.map normN = l.map (dNode ws l) ∧ MapIs w6 (some mb) (numM l) ∧ nn = xs.length from
            ⟨H5.out.1.below b6 H5.out.1.lt, H5.out.2.1.trans (b6.mono H5.out.2.1.size), (H5.out.2.2.below b6).mem, no6, hxs, mp6, hnn⟩)
          have HRb5 := Lib.hid (H5.out.1.lt)
          have HRw5 := Lib.hid (H5.out.2.1.size)
          clear no6 hxs mp6 b6 hnn H5 HRn
          go_wp2_with fail
          obtain ⟨Gb, hGb⟩ : ∃ G, G = w6.heap.size := ⟨_, rfl⟩
          obtain ⟨wS, hwS⟩ : ∃ W, W = w6.alloc (.cells #[.slice nA nn nc, .slice none 0 0] 25) := ⟨_, rfl⟩
          have hbk : Bk wS Gb 25 #[.slice nA nn nc, .slice none 0 0] := by rw [hwS, hGb]; exact Bk.new w6 _ _
          have b7 : Below w6.heap.size w6 wS := by rw [hwS]; exact Gw.alloc w6 _
          have z7 : wS.heap.size = Gb + 1 := by rw [hwS, hGb]; unfold World.alloc; simp
          rw [← hwS, ← hGb]
          have HSS := Lib.hid (show MemAt wS w2.heap.size m v ws ∧ NOwn wS w5.heap.size (.slice nA nn nc) xs ∧ MapIs wS (some mb) (numM l) ∧ Below w.heap.size w wS ∧ Rb < Gb ∧ wS.heap.size = Gb + 1 from
            ⟨H6.out.2.2.1.below b7, H6.out.2.2.2.1.below b7, H6.out.2.2.2.2.2.1.kept (Kept.of_below b7 (fun _ => False)) (fun _ _ f => f), H6.out.2.1.trans (b7.mono H6.out.2.1.size), by rw [hGb]; exact H6.out.1.lt, z7⟩)
          have HS0 : Hid (∃ rs', Bk wS Gb 25 #[.slice nA nn nc, .slice none 0 0] ∧ Bk wS Rb 25 #[.slice none 0 0, .slice none 0 0] ∧ ROwn wS (Gb + 1) (.slice none 0 0) rs' ∧ rs' = (List.range 0).map (dRoot ws l) ∧ Below w6.heap.size w6 wS) := Lib.hid
            ⟨[], hbk, H6.out.1.below b7 H6.out.1.lt, ROwn.nil _ _, rfl, b7⟩
          have HG := Lib.hid (show w.heap.size ≤ Gb ∧ Gb = w6.heap.size from ⟨by rw [hGb]; exact H6.out.2.1.size, hGb⟩)
          clear hwS hGb hbk b7 z7
          go_loopw [60] (fun x W => ∃ k : Nat, x = .int .i64 k ∧ k ≤ R ∧ Hid (∃ rv rs', Bk W Gb 25 #[.slice nA nn nc, rv] ∧ Bk W Rb 25 #[.slice none 0 0, .slice none 0 0] ∧ ROwn W (Gb + 1) rv rs' ∧ rs' = (List.range k).map (dRoot ws l) ∧ Below w6.heap.size w6 W ∧ Rb ≠ Gb)) (fun x _ => R - (Go.RowKit.intOf x).toNat)
          case atStart =>
            obtain ⟨rs', k1, k2', k3, k4, k5⟩ := HS0.out
            exact ⟨0, rfl, Nat.zero_le _, Lib.hid ⟨_, rs', k1, k2', k3, k4, k5, by have := HSS.out.2.2.2.2.1; omega⟩⟩
          case round =>
            obtain ⟨k, rfl, hk, hS⟩ := hrel
            clear HS0
            have p0 : (0 : Int) ≤ (k : Int) := by omega
            obtain ⟨rv, rs', e1, e2, e3, e4, e5, e6⟩ := hS.out
            by_cases hlt : k < R
            · have p1 : (k : Int) < (R : Int) := by omega
              have HBk := Lib.hid (fun W => ibase_c k (by omega) W)
              obtain ⟨a, ha⟩ : ∃ a, a = 2 + 5 * k := ⟨_, rfl⟩
              rw [← ha] at HBk
              have hal : a + 4 < ws.length := by have h1 := HOb.out.2; have h2 := HY.out.2.1; have h3 := HX.out.1; omega
              have HRr := Lib.hid (fun W (b : Below w6.heap.size w6 W) => readRoot_c W w2.heap.size m mb v ws (H6.out.2.2.1.below b) HX.out.2.1 l (H6.out.2.2.2.2.2.1.kept (Kept.of_below b (fun _ => False)) (fun _ _ f => f)) k a ha hal)
              have hrl : rs'.length ≤ 100000 := by rw [e4, List.length_map, List.length_range]; have := HY.out.2.2; omega
              have H0 := Lib.hid (And.intro e1 (And.intro e2 (And.intro e3 (And.intro e4 (And.intro e5 (And.intro e6 hrl))))))
              obtain ⟨rA, rc, er⟩ := own_form e3
              obtain ⟨rn, hrn⟩ : ∃ k, k = rs'.length := ⟨_, rfl⟩
              rw [← hrn] at er
              subst er
              clear e1 e2 e3 e4 e5 e6 hS ha hal hrl hrn hk
              go_wp2_with fail
              refine Calls.mono (HBk.out wr) ?_
              rintro r w7 ⟨rfl, b7⟩
              have H7 := Lib.hid (show Bk w7 Gb 25 #[.slice nA nn nc, .slice rA rn rc] ∧ Bk w7 Rb 25 #[.slice none 0 0, .slice none 0 0] ∧ ROwn w7 (Gb + 1) (.slice rA rn rc) rs' ∧ Below w6.heap.size w6 w7 ∧ Gb + 1 ≤ w7.heap.size from
                ⟨H0.out.1.below b7 H0.out.1.lt, H0.out.2.1.below b7 H0.out.2.1.lt, H0.out.2.2.1.below b7, H0.out.2.2.2.2.1.trans (b7.mono H0.out.2.2.2.2.1.size), by have := (H0.out.1.below b7 H0.out.1.lt).lt; omega⟩)
              clear b7 HBk
              go_wp2_with fail
              refine Calls.mono (HRr.out w7 H7.out.2.2.2.1) ?_
              rintro r w8 ⟨rfl, b8⟩
              have H8 := Lib.hid (show Bk w8 Gb 25 #[.slice nA nn nc, .slice rA rn rc] ∧ Bk w8 Rb 25 #[.slice none 0 0, .slice none 0 0] ∧ ROwn w8 (Gb + 1) (.slice rA rn rc) rs' ∧ Below w6.heap.size w6 w8 ∧ Gb + 1 ≤ w8.heap.size from
                ⟨H7.out.1.below b8 H7.out.1.lt, H7.out.2.1.below b8 H7.out.2.1.lt, H7.out.2.2.1.below b8, H7.out.2.2.2.1.trans (b8.mono H7.out.2.2.2.1.size), Nat.le_trans H7.out.2.2.2.2 b8.size⟩)
              clear b8 H7 HRr
              obtain ⟨xr, hxr⟩ : ∃ x, x = dRoot ws l k := ⟨_, rfl⟩
              have HXr := Lib.hid hxr
              rw [← hxr]
              clear hxr
              obtain ⟨xs1, xt1⟩ := xr
              unfold Rv.v
              simp only
              obtain ⟨g0, g1⟩ := H8.out.1.two
              have hGl := H8.out.1.lt
              have hfz := H8.out.1.free 1
              have HV := Lib.hid (two_new w8 56 56 (.string xs1) (.int .i64 xt1))
              go_wp2_with (at_builtin; refine wp_appRv rfl (.tmp 76) (.tmp 78) rfl (Gb + 1) _ rs' ⟨xs1, xt1⟩ rfl ((H8.out.2.2.1.below (Gw.alloc w8 _)).below (Gw.alloc _ _)) (w8.heap.size + 1) 1 rfl HV.out.1 HV.out.2 H0.out.2.2.2.2.2.2 (Nat.le_trans H8.out.2.2.2.2 (Nat.le_trans (Gw.alloc w8 _).size (Gw.alloc _ _).size)) ?_; intro v9 w9 ho9 hb9 hg9; obtain ⟨A9, c9, e9⟩ := own_form ho9; obtain ⟨n9, hn9⟩ : ∃ n, n = (rs' ++ [Rv.mk xs1 xt1]).length := ⟨_, rfl⟩; rw [← hn9] at e9; subst e9; clear hn9; have hk9 : Bk w9 Gb 25 #[.slice nA nn nc, .slice rA rn rc] := (Kept.grown hg9).bk ((H8.out.1.alloc _).alloc _) (fun hh => by have := (World.ownsRow.lt H8.out.2.2.1 _ hh).1; omega); have H9 := Lib.hid (And.intro ho9 (And.intro hk9 (And.intro ((Kept.grown hg9).bk ((H8.out.2.1.alloc _).alloc _) (fun hh => by have := (World.ownsRow.lt H8.out.2.2.1 _ hh).1; have := HSS.out.2.2.2.2.1; omega)) (((H8.out.2.2.2.1.alloc H8.out.2.2.2.1.size _).alloc (Nat.le_trans H8.out.2.2.2.1.size (Gw.alloc w8 _).size) _).trans (hb9.mono (by have := HG.out.2; omega)))))); clear g0 g1 hGl hfz; obtain ⟨g0, g1⟩ := hk9.two; have hGl := hk9.lt; have hfz := hk9.free 1; clear ho9 hb9 hg9 hk9)
              have HN : Hid (∃ rv rs', Bk (w9.setCell ⟨Gb, 1, none⟩ (.slice A9 n9 c9)) Gb 25 #[.slice nA nn nc, rv] ∧ Bk (w9.setCell ⟨Gb, 1, none⟩ (.slice A9 n9 c9)) Rb 25 #[.slice none 0 0, .slice none 0 0] ∧ ROwn (w9.setCell ⟨Gb, 1, none⟩ (.slice A9 n9 c9)) (Gb + 1) rv rs' ∧ rs' = (List.range (k + 1)).map (dRoot ws l) ∧ Below w6.heap.size w6 (w9.setCell ⟨Gb, 1, none⟩ (.slice A9 n9 c9)) ∧ Rb ≠ Gb) := by
                obtain ⟨h1, h2, h3, h4⟩ := H9.out
                refine Lib.hid ⟨_, _, by have := h2.set 1 (.slice A9 n9 c9); simpa using this, (Kept.set w9 Gb 1 _).bk h3 H0.out.2.2.2.2.2.1, (Kept.set w9 Gb 1 _).rowF h1 (fun j hj hh => by have := (World.ownsRow.lt h1 j hj).1; omega), ?_, ?_, H0.out.2.2.2.2.2.1⟩
                · rw [List.range_succ, List.map_append, ← H0.out.2.2.2.1, HXr.out]; rfl
                · exact h4.setCell (p := ⟨Gb, 1, none⟩) (show w6.heap.size ≤ Gb from Nat.le_of_eq HG.out.2.symm) _
              clear g0 g1 hGl hfz H9 H8
              go_roundw
              case rel => exact ⟨k + 1, by go_num, by omega, HN⟩
              case measure => simp [Go.RowKit.intOf]; omega
            · have p1 : ¬ (k : Int) < (R : Int) := by omega
              have hkR : k = R := by omega
              subst hkR
              obtain ⟨rA, rc, er⟩ := own_form e3
              obtain ⟨rn, hrn⟩ : ∃ k, k = rs'.length := ⟨_, rfl⟩
              rw [← hrn] at er
              subst er
              have H0 := Lib.hid (And.intro e1 (And.intro e2 (And.intro e3 (And.intro e4 (And.intro e5 (And.intro e6 hrn))))))
              obtain ⟨g0, g1⟩ := e1.two
              have hGl := e1.lt
              obtain ⟨q0, q1⟩ := e2.two
              have hRl := e2.lt
              have hfr0 := e2.free 0
              have hfr1 := e2.free 1
              clear e1 e2 e3 e4 e5 hS hk hrn
              go_wp2_with fail
              obtain ⟨V, hV⟩ : ∃ V, V = ((wr.setCell ⟨Rb, 0, none⟩ (.slice nA nn nc)).setCell ⟨Rb, 1, none⟩ (.slice rA rn rc)) := ⟨_, rfl⟩
              have kR : Bk V Rb 25 #[.slice nA nn nc, .slice rA rn rc] := by rw [hV]; exact two_set H0.out.2.1
              have kK : Kept (fun j => j = Rb) wr V := by
                rw [hV]
                exact (Kept.set wr Rb 0 _).trans (Kept.set _ Rb 1 _)
              have kB : Below w.heap.size w V := (H6.out.2.1.trans (H0.out.2.2.2.2.1.mono H6.out.2.1.size)).trans (kK.below (Nat.le_trans H6.out.2.1.size H0.out.2.2.2.2.1.size) (fun j hj => by have := HFr.out; omega))
              have hl := run_loadVar_row (P := Try.prog) V Rb 25 25 #[.slice nA nn nc, .slice rA rn rc] (0, 0) _ kR Try.underlying25 rfl (by kernel_rfl)
              rw [← hV]
              clear hV q0 q1 hRl hfr0 hfr1 g0 g1 hGl
              refine bodyPost_ret (res2 (p := 2) (u := 3) (by kernel_rfl) hl rfl rfl) rfl ?_
              rw [HE.out]
              obtain ⟨h1, h2, h3, h4, h5, h6, h7⟩ := H0.out
              have hN0 : NOwn wr w5.heap.size (.slice nA nn nc) xs := H6.out.2.2.2.1.below h5
              have hRb5 : Rb < w5.heap.size := HRb5.out
              have hNV : NOwn V w5.heap.size (.slice nA nn nc) xs := by
                refine hN0.grown (q := Rb) ⟨kK.os, kK.tape, kK.output, kK.size, fun j hj hn => kK.block j hj (fun e => hn (by rw [e]))⟩ (fun hm => ?_)
                have := blks_ge hN0 Rb hm
                omega
              have hRV : ROwn V (Gb + 1) (.slice rA rn rc) rs' := kK.rowF h3 (fun j hj hh => by have h9 := (World.ownsRow.lt h3 j hj).1; have := HSS.out.2.2.2.2.1; omega)
              obtain ⟨r1, r2, r3⟩ := hNV.rows
              obtain ⟨t1, t2, t3⟩ := hRV.rows
              refine .inr ⟨⟨nA, nc, rA, rc, xs, rs'⟩, l, ?_, ⟨r1, t1, r3, t3⟩, ?_, H6.out.2.2.2.2.1, ?_, ?_, kB, ?_, ?_⟩
              · show _ = Ending.returned (.tuple #[.agg #[.slice nA xs.length nc, .slice rA rs'.length rc], .int .i64 0])
                rw [← r2, ← t2]
                rfl
              · rw [← HX.out.1, ← HY.out.1, ← HY.out.2.1]; exact HOb.out.1
              · rw [← HY.out.1]; exact h4
              · rw [← HX.out.1, ← HY.out.1, ← HY.out.2.1]; exact HOb.out.2
              · show NOwn V w.heap.size (.slice nA xs.length nc) xs
                rw [← r2]
                exact hNV.mono HRw5.out
              · show ROwn V w.heap.size (.slice rA rs'.length rc) rs'
                rw [← t2]
                exact hRV.mono (by have := HG.out.1; omega)
        · have HBad := Lib.hid (show BadW ws from fun g g1 g2 e => by
            have h := (enc_read g1 g2).2
            rw [e, ← HX.out.1, ← HY.out.1] at h
            have h3 := h.2.2
            rw [← h.1, ← HY.out.2.1, HOb.out.1] at h3
            have h4 := h3.1
            injection h4 with h4
            rw [← h4] at h3
            exact hwl h3.2)
          have hwe : ¬ wellE ws b n = 0 := by rw [well_some HOb.out.1, if_neg hwl]; decide
          have HRn := Lib.hid (readNodes_bad w5 w2.heap.size s m v ws b n n H5.out.2.2 HX.out.2.1 hwe)
          obtain ⟨er, her⟩ : ∃ er, er = wellE ws b n := ⟨_, rfl⟩
          rw [← her] at HRn hwe
          have HEr := Lib.hid hwe
          have e1 : (er != 0) = true := by simpa using hwe
          clear hwl hwe her
          go_wp2_with fail
          refine Calls.mono HRn.out ?_
          rintro r w6 ⟨rfl, b6⟩
          have H6 := Lib.hid (show Bk w6 Rb 25 #[.slice none 0 0, .slice none 0 0] ∧ Below w.heap.size w w6 from ⟨H5.out.1.below b6 H5.out.1.lt, H5.out.2.1.trans (b6.mono H5.out.2.1.size)⟩)
          clear b6 H5 HRn
          obtain ⟨q0, q1⟩ := H6.out.1.two
          have hRl := H6.out.1.lt
          have hfr0 := H6.out.1.free 0
          have hfr1 := H6.out.1.free 1
          go_wp2_with fail
          obtain ⟨V, hV⟩ : ∃ V, V = ((w6.setCell ⟨Rb, 0, none⟩ (.slice none 0 0)).setCell ⟨Rb, 1, none⟩ (.slice none 0 0)) := ⟨_, rfl⟩
          have kR : Bk V Rb 25 #[.slice none 0 0, .slice none 0 0] := by rw [hV]; exact two_set H6.out.1
          have kB : Below w.heap.size w V := by rw [hV]; exact two_below H6.out.2 HFr.out
          have hl := run_loadVar_row (P := Try.prog) V Rb 25 25 #[.slice none 0 0, .slice none 0 0] (0, 0) _ kR Try.underlying25 rfl (by kernel_rfl)
          rw [← hV]
          clear hV q0 q1 hRl hfr0 hfr1
          refine bodyPost_ret (res2 (p := 2) (u := 3) (by kernel_rfl) hl rfl rfl) rfl ?_
          rw [HE.out]
          exact .inl ⟨er, HEr.out, rfl, kB, HBad.out⟩
    · have HBad := Lib.hid (show BadW ws from fun g g1 g2 e => by
        have h := (enc_read g1 g2).2
        rw [e, ← HX.out.1, ← HY.out.1] at h
        have h3 := h.2.1
        have h4 := h.1
        have h5 := HY.out.2.1
        omega)
      have HSo := Lib.hid (sof_out w4 (.pointer (some ⟨m, 0, none⟩)) b n n (bare_out w4 w2.heap.size m v ws b n n HM4.out (.inr (.inl ⟨by omega, by omega⟩))))
      clear hbn
      go_wp2_with fail
      refine Calls.mono HSo.out ?_
      rintro r w5 ⟨rfl, rfl⟩
      obtain ⟨q0, q1⟩ := H4.out.1.two
      have hRl := H4.out.1.lt
      have hfr0 := H4.out.1.free 0
      have hfr1 := H4.out.1.free 1
      go_wp2_with fail
      obtain ⟨V, hV⟩ : ∃ V, V = ((w5.setCell ⟨Rb, 0, none⟩ (.slice none 0 0)).setCell ⟨Rb, 1, none⟩ (.slice none 0 0)) := ⟨_, rfl⟩
      have kR : Bk V Rb 25 #[.slice none 0 0, .slice none 0 0] := by rw [hV]; exact two_set H4.out.1
      have kB : Below w.heap.size w V := by rw [hV]; exact two_below H4.out.2 HFr.out
      have hl := run_loadVar_row (P := Try.prog) V Rb 25 25 #[.slice none 0 0, .slice none 0 0] (0, 0) _ kR Try.underlying25 rfl (by kernel_rfl)
      rw [← hV]
      clear hV q0 q1 hRl hfr0 hfr1
      refine bodyPost_ret (res2 (p := 2) (u := 3) (by kernel_rfl) hl rfl rfl) rfl ?_
      rw [HE.out]
      exact .inl ⟨1, by decide, rfl, kB, HBad.out⟩
end Go.Proofs.Ytkkjnahjmomjgaa
