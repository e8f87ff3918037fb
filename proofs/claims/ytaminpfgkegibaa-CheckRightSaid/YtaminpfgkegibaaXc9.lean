/- Texts joined: EnE EnG EnF ApU CrF OpenR OpenG. -/
import Derived.Test.YtaminpfgkegibaaXc8
import Derived.Test.YtaminpfgkegibaaFrame
import Derived.Deep.Slices
import Derived.Deep.Fields
/- loamref17.Need, Encode. Conditions: a graph of few nodes. -/
namespace Go.Proofs.Ytaminpfgkegibaa
set_option linter.unusedVariables false
set_option linter.unusedSimpArgs false
open Go.RowKit Go.Maps
set_option maxHeartbeats 4000000
set_option maxRecDepth 100000
theorem few_words {g : Gv} (h : FewP g) : 0 ≤ wordsL g.n ∧ wordsL g.n ≤ 100000 := by
  have h1 : ∀ l : List Nv, 0 ≤ wordsL l ∧ wordsL l ≤ 300 * (l.length : Int) := by
    intro l
    induction l with
    | nil => exact ⟨Int.le_refl _, Int.le_refl _⟩
    | cons x r ih =>
      have hx := szN_le x
      show 0 ≤ szN x + wordsL r ∧ szN x + wordsL r ≤ _
      rw [List.length_cons]
      omega
  have h2 := h1 g.n
  have h3 := h.1
  omega
theorem nd1 (Q : Exit → Act → World → Prop) (a0 : Act) (w : World) (G N M c c2 : Nat) (A A2 : Option Addr) (z : Int) (hGl : G < w.heap.size) (g0 : w.cell? ⟨G, 0, none⟩ = some (.slice A N c)) (g1 : w.cell? ⟨G, 1, none⟩ = some (.slice A2 M c2)) (hM : (M : Int) ≤ 100000) (z0 : 0 ≤ z) (z1 : z ≤ 100000) (hw : Hid (∀ W, Below w.heap.size w W → Calls Try.prog 74 #[.agg #[.slice A N c, .slice A2 M c2]] W (RetP (.int .i64 z) W))) (hsz : a0.tmps.size = 11) (sl1 : a0.tmps.getD 1 undef = .pointer (some ⟨G, 0, none⟩))
    (fin : ∀ (vals : Nat → Value) (w1 : World), Below w.heap.size w w1 → (IsV (.int .i64 (2 + 5 * (M : Int) + z))) (vals 8) w1 → Q .normal (putD vals [3, 4, 5, 6, 7, 8, 9, 10, 2] 0 a0) w1) :
    (Code.region 1 (regIn Try.f40 1) true).wp Try.prog Q a0 w := by
  refine region_by (G := fun w w1 => Below w.heap.size w w1) [IsV (.pointer (some ⟨G, 1, none⟩)),
    IsV (.slice A2 M c2),
    IsV (.int .i64 (M : Int)),
    IsV (.int .i64 (5 * (M : Int))),
    IsV (.int .i64 (2 + 5 * (M : Int))),
    IsV (.agg #[.slice A N c, .slice A2 M c2]),
    IsV (.int .i64 z),
    IsV (.int .i64 (2 + 5 * (M : Int) + z)),
    IsV (.int .i64 (2 + 5 * (M : Int) + z))]
    [3, 4, 5, 6, 7, 8, 9, 10, 2] (by kernel_rfl) (Gw.drew _) Gw.trans (by rw [hsz]; kernel_rfl) (by kernel_rfl) ?_ ?_ ?_
  · intro f hf
    simp only [List.mem_cons, List.not_mem_nil, or_false] at hf
    rcases hf with rfl | rfl | rfl | rfl | rfl | rfl | rfl | rfl | rfl <;> intro v a b h g <;> first | exact IsV.mono h
  · refine ⟨?_, ?_, ?_, ?_, ?_, ?_, ?_, ?_, ?_, trivial⟩
    · refine owes_v (Go.Op.fieldAddr 52 (Go.Operand.tmp 1) 1) 0 [] (by kernel_rfl) (by kernel_rfl) (by kernel_rfl) rfl fun vals w1 ρ hG hF hρ hcst hfun => ?_
      have e1 : ρ (.tmp 1) = .pointer (some ⟨G, 0, none⟩) := ((hρ 1).trans (slotO [] (by kernel_rfl))).trans sl1
      clear hρ hF hcst hfun sl1 fin
      exact opv_val (by go_simp <;> rfl) ⟨gw_self _, rfl⟩
    · refine owes_v (Go.Op.load 50 (Go.Operand.tmp 3)) 50 [0] (by kernel_rfl) (by kernel_rfl) (by kernel_rfl) rfl fun vals w1 ρ hG hF hρ hcst hfun => ?_
      have e3 : ρ (.tmp 3) = .pointer (some ⟨G, 1, none⟩) := ((hρ 3).trans (slotJ [0] (by rw [hsz]; decide) (by kernel_rfl))).trans (hF 0 (by decide))
      have kk := (hG.cell (p := ⟨G, 1, none⟩) hGl).trans g1
      clear hρ hF hcst hfun sl1 fin
      exact opv_val (by go_simp <;> rfl) ⟨gw_self _, rfl⟩
    · refine owes_v (Go.Op.call { callee := Go.Callee.builtin Go.Builtin.len, args := #[Go.Operand.tmp 4], argTypes := #[50] }) 3 [1] (by kernel_rfl) (by kernel_rfl) (by kernel_rfl) rfl fun vals w1 ρ hG hF hρ hcst hfun => ?_
      have e4 : ρ (.tmp 4) = .slice A2 M c2 := ((hρ 4).trans (slotJ [1] (by rw [hsz]; decide) (by kernel_rfl))).trans (hF 1 (by decide))
      clear hρ hF hcst hfun sl1 fin
      exact opv_val (by go_simp <;> rfl) ⟨gw_self _, rfl⟩
    · refine owes_v (Go.Op.binOp Go.BinOp.mul 3 (Go.Operand.const (Go.Value.int Go.IntKind.i64 5)) (Go.Operand.tmp 5) 3) 3 [2] (by kernel_rfl) (by kernel_rfl) (by kernel_rfl) rfl fun vals w1 ρ hG hF hρ hcst hfun => ?_
      have e5 : ρ (.tmp 5) = .int .i64 (M : Int) := ((hρ 5).trans (slotJ [2] (by rw [hsz]; decide) (by kernel_rfl))).trans (hF 2 (by decide))
      have kw0 : IntKind.i64.wrap ((5 * (M : Int))) = (5 * (M : Int)) := wrapIn (by omega) (by omega)
      clear hρ hF hfun sl1 fin
      exact opv_val (by go_simp <;> rfl) ⟨gw_self _, rfl⟩
    · refine owes_v (Go.Op.binOp Go.BinOp.add 3 (Go.Operand.const (Go.Value.int Go.IntKind.i64 2)) (Go.Operand.tmp 6) 3) 3 [3] (by kernel_rfl) (by kernel_rfl) (by kernel_rfl) rfl fun vals w1 ρ hG hF hρ hcst hfun => ?_
      have e6 : ρ (.tmp 6) = .int .i64 (5 * (M : Int)) := ((hρ 6).trans (slotJ [3] (by rw [hsz]; decide) (by kernel_rfl))).trans (hF 3 (by decide))
      have kw0 : IntKind.i64.wrap ((2 + 5 * (M : Int))) = (2 + 5 * (M : Int)) := wrapIn (by omega) (by omega)
      clear hρ hF hfun sl1 fin
      exact opv_val (by go_simp <;> rfl) ⟨gw_self _, rfl⟩
    · refine owes_v (Go.Op.load 52 (Go.Operand.tmp 1)) 52 [] (by kernel_rfl) (by kernel_rfl) (by kernel_rfl) rfl fun vals w1 ρ hG hF hρ hcst hfun => ?_
      have e1 : ρ (.tmp 1) = .pointer (some ⟨G, 0, none⟩) := ((hρ 1).trans (slotO [] (by kernel_rfl))).trans sl1
      have k0 := (hG.cell (p := ⟨G, 0, none⟩) hGl).trans g0; have k1 := (hG.cell (p := ⟨G, 1, none⟩) hGl).trans g1
      clear hρ hF hcst hfun sl1 fin
      exact opv_val (by go_simp <;> rfl) ⟨gw_self _, rfl⟩
    · refine owes_v (Go.Op.call { callee := Go.Callee.value (Go.Operand.func 74), args := #[Go.Operand.tmp 8], argTypes := #[52] }) 3 [5] (by kernel_rfl) (by kernel_rfl) (by kernel_rfl) rfl fun vals w1 ρ hG hF hρ hcst hfun => ?_
      have e8 : ρ (.tmp 8) = .agg #[.slice A N c, .slice A2 M c2] := ((hρ 8).trans (slotJ [5] (by rw [hsz]; decide) (by kernel_rfl))).trans (hF 5 (by decide))
      clear hρ hF hcst sl1 fin
      exact opv_enter (by go_simp <;> rfl) (of_ret (hw.out w1 hG))
    · refine owes_v (Go.Op.binOp Go.BinOp.add 3 (Go.Operand.tmp 7) (Go.Operand.tmp 9) 3) 3 [4, 6] (by kernel_rfl) (by kernel_rfl) (by kernel_rfl) rfl fun vals w1 ρ hG hF hρ hcst hfun => ?_
      have e7 : ρ (.tmp 7) = .int .i64 (2 + 5 * (M : Int)) := ((hρ 7).trans (slotJ [4, 6] (by rw [hsz]; decide) (by kernel_rfl))).trans (hF 4 (by decide))
      have e9 : ρ (.tmp 9) = .int .i64 z := ((hρ 9).trans (slotJ [4, 6] (by rw [hsz]; decide) (by kernel_rfl))).trans (hF 6 (by decide))
      have kw0 : IntKind.i64.wrap ((2 + 5 * (M : Int) + z)) = (2 + 5 * (M : Int) + z) := wrapIn (by omega) (by omega)
      clear hρ hF hcst hfun sl1 fin
      exact opv_val (by go_simp <;> rfl) ⟨gw_self _, rfl⟩
    · exact owes_mvj 7 10 (by kernel_rfl) (by kernel_rfl) (by kernel_rfl) (by kernel_rfl) (by rw [hsz]; decide) (fun v w h => h)
  · intro vals w1 hG hF
    exact fin vals w1 hG (hF 8 (by decide +kernel))
theorem rneed_c (w : World) (g : Gv) (hg : g.At w w.heap.size) (hs : FewP g) : Calls Try.prog 40 #[g.v] w (RetP (.int .i64 (2 + 5 * (g.r.length : Int) + wordsL g.n)) w) := by
  have HW := Lib.hid (fun W (b : Below w.heap.size w W) => rwords_c W g (hg.up b) hs.small)
  obtain ⟨z0, z1⟩ := few_words hs
  obtain ⟨z, hz⟩ : ∃ z, z = wordsL g.n := ⟨_, rfl⟩
  rw [← hz] at HW z0 z1 ⊢
  have hM := hs.2.1
  obtain ⟨A, ca, A2, ca2, ns, rs⟩ := g
  obtain ⟨N, hN⟩ : ∃ N, N = ns.length := ⟨_, rfl⟩
  obtain ⟨M, hMM⟩ : ∃ M, M = rs.length := ⟨_, rfl⟩
  unfold Gv.v Gv.vn Gv.vr at HW ⊢
  simp only at HW hM ⊢
  rw [← hMM] at HW hM ⊢
  rw [← hN] at HW ⊢
  have hMi : (M : Int) ≤ 100000 := by omega
  clear hg hs hz hN hMM hM
  go_enter Try.func40, Try.ntmps40
  go_wp2_with fail
  obtain ⟨G, hG⟩ : ∃ G, G = w.heap.size := ⟨_, rfl⟩
  obtain ⟨w1, hw1⟩ : ∃ W, W = w.alloc (.cells #[.slice A N ca, .slice A2 M ca2] 52) := ⟨_, rfl⟩
  have hbk : Bk w1 G 52 #[.slice A N ca, .slice A2 M ca2] := by rw [hw1, hG]; exact Bk.new w _ _
  have b1 : Below w.heap.size w w1 := by rw [hw1]; exact Gw.alloc w _
  rw [← hw1, ← hG]
  have HW1 := Lib.hid (fun W (b : Below w1.heap.size w1 W) => HW.out W (b1.trans (b.mono b1.size)))
  have hGl := hbk.lt
  have H1 := Lib.hid b1
  obtain ⟨g0, g1⟩ := hbk.two
  clear hw1 hG hbk b1 HW
  refine nd1 _ _ _ G N M ca ca2 A A2 z hGl g0 g1 hMi z0 z1 (Lib.hid (fun W b => (HW1.out W b).mono fun r w' h => h)) rfl ?_ ?_
  · rfl
  intro vals w2 hG2 h2
  unfold IsV at h2
  simp only [putD, Act.put, List.setIfInBounds_toArray, List.set_cons_zero, List.set_cons_succ, h2]
  have H2 := Lib.hid (H1.out.trans (hG2.mono H1.out.size))
  clear hG2 h2
  go_wp2_with fail
  go_ret
  exact ⟨rfl, H2.out⟩
end Go.Proofs.Ytaminpfgkegibaa
/- loamref17.Encode: the append that fills a name up; the row of the first two words. Conditions: lengths. -/
namespace Go.Proofs.Ytaminpfgkegibaa
set_option linter.unusedVariables false
set_option linter.unusedSimpArgs false
open Go.RowKit
set_option maxHeartbeats 2000000
theorem run_appM0 {P : Program} (w : World) (t tn ty e : TypeId) (i : TypeInfo) (z : Value) (kq kn : IntKind) (ht : P.underlying t = some (.slice e)) (htn : P.underlying tn = some (.int kn)) (hi : P.info? e = some i) (hz : i.zero = some z) (hs1 : i.size = 1) (hb1 : i.bytes = 1)
    (g n cap : Nat) (hn : n ≤ cap) (hb : n ≤ 1000000000) : (Builtin.append_ #[t, tn] ty #[.slice (some ⟨g, 0, none⟩) n cap, .int kq 0]).run P w = .ok (.slice (some ⟨g, 0, none⟩) n cap) w := by
  have hw : IntKind.i64.wrap (0 : Int) = 0 := by rw [IntKind.wrap_i64]; omega
  have h63' : ¬ (9223372036854775807 < (n : Int)) := by omega
  simp [Builtin.append_, run_underlying ht, run_underlying htn, sizeOf, typeInfo, zeroValue, hi, hz, hs1, hb1, asInt, asIntOf, hw, hn, h63', Question.forced]
  rfl
theorem nameW_cells {s : ByteArray} (cs : List Value) (h : cs = s.data.toList.map (fun b => Value.int .u8 b.toNat)) : cs ++ List.replicate (32 - s.size) (Value.int .u8 0) = (nameW s).map b8 := by
  subst h
  unfold nameW
  rw [List.map_append, List.map_map, List.map_replicate]
  rfl
theorem rd_cells {α : Type} {f : α → Value} {w : World} {q : Nat} {xs : List α} (hq : q < w.heap.size) (h : ∀ (j : Nat) (u : Value), (xs.map f)[j]? = some u → w.cell? ⟨q, j, none⟩ = some u) : Rd f w w.heap.size (some ⟨q, 0, none⟩) xs := by
  intro j hj
  refine ⟨_, rfl, hq, ?_⟩
  rw [add_off, Nat.zero_add]
  exact h j _ (by rw [List.getElem?_map, List.getElem?_eq_getElem hj]; rfl)
theorem wp_nm {ops : Array Oper} {rest : List Oper} {o : Oper} {a : Act} {w : World} {Q : Exit → Act → World → Prop} (hgd : o.guard = none) (s x : Operand)
    (ho : o.op = .call { callee := .builtin .append, args := #[s, x], argTypes := #[95, 3] })
    (base : Nat) (nm : ByteArray) (v : Value) (hs : a.eval s = v) (hcv : CvV nm base v w) (hz : nm.size ≤ 32) (z : Int) (hzz : z = 32 - (nm.size : Int)) (hx : a.eval x = .int .i64 z) (hbase : base ≤ w.heap.size)
    (h : ∀ (q c : Nat) (w' : World), Rd b8 w' w'.heap.size (some ⟨q, 0, none⟩) (nameW nm) → Below base w w' → wpList Try.prog ops Q rest (a.put o.dst (.slice (some ⟨q, 0, none⟩) 32 c)) w') : wpList Try.prog ops Q (o :: rest) a w := by
  obtain ⟨g, cur, rfl, hB, hh, hnc, htk⟩ := hcv
  have hlt : g < w.heap.size := (Array.getElem?_eq_some_iff.1 hh).1
  have hI := infoB
  cases hi : Try.prog.info? 5 with
  | none => rw [hi] at hI; cases hI
  | some i =>
    rw [hi] at hI
    simp only [Option.map_some, Option.some.injEq, Prod.mk.injEq] at hI
    have hcl : (cur.toList.take nm.size).length = nm.size := by rw [List.length_take]; simp; omega
    by_cases hk : nm.size = 32
    · have hz0 : z = 0 := by omega
      subst hz0
      have hr := run_appM0 (P := Try.prog) w 95 3 o.type 5 i (.int .u8 0) .i64 .i64 Try.underlying95 Try.underlying3 hi hI.1 hI.2.1 hI.2.2 g nm.size cur.size hnc (by omega)
      refine Lib.wpList_append_run w hgd s x _ _ ho _ _ hs hx _ w hr ?_
      rw [hk]
      refine h g cur.size w (rd_cells hlt fun j u hu => ?_) (Below.refl _ _)
      rw [← nameW_cells _ htk, hk, Nat.sub_self, List.replicate_zero, List.append_nil, List.getElem?_take_of_lt (by have := (List.getElem?_eq_some_iff.1 hu).1; simp [nameW_len hz] at this; omega)] at hu
      simp [World.cell?, hh]
      simpa using hu
    · obtain ⟨v', w', hr, q, c, e1, hq1, hq2, hc, hb⟩ := run_appM (P := Try.prog) w base 95 3 o.type 5 i (.int .u8 0) .i64 .i64 Try.underlying95 Try.underlying3 hi hI.1 hI.2.1 hI.2.2 rfl rfl g nm.size cur.size cur hh hnc rfl _ hcl rfl (32 - nm.size) (by omega) (by omega) hB
      subst e1
      have hze : z = ((32 - nm.size : Nat) : Int) := by omega
      rw [hze] at hx
      refine Lib.wpList_append_run w hgd s x _ _ ho _ _ hs hx _ w' hr ?_
      rw [show nm.size + (32 - nm.size) = 32 from by omega]
      refine h q c w' (rd_cells hq2 fun j u hu => hc j u ?_) hb
      rw [nameW_cells _ htk]
      exact hu
theorem ow_front (w : World) (R t : Nat) (h : R + t * 65536 < 18446744073709551616) : Ow u64v 57 (w.alloc (.cells #[.int .u64 1296125772, .int .u64 ((R : Int) + (t : Int) * 65536)] 57)) w.heap.size (.slice (some ⟨w.heap.size, 0, none⟩) 2 2) (frontW R t) := by
  have e : u64v (BitVec.ofNat 64 (R + t * 65536)) = .int .u64 ((R : Int) + (t : Int) * 65536) := by
    unfold u64v U64
    rw [BitVec.toNat_ofNat, Nat.mod_eq_of_lt (by omega)]
    first | rfl | (congr 1; done) | (congr 1; omega)
  refine ⟨rfl, .inr ⟨w.heap.size, 2, _, rfl, Nat.le_refl _, heap_alloc_new w _, Nat.le_refl _, by simp [maxLen], rfl, ?_⟩⟩
  unfold frontW
  rw [List.map_cons, List.map_cons, List.map_nil, e]
  rfl
end Go.Proofs.Ytaminpfgkegibaa
/- loamref17.Encode. Conditions: a graph of few nodes. -/
namespace Go.Proofs.Ytaminpfgkegibaa
set_option linter.unusedVariables false
set_option linter.unusedSimpArgs false
open Go.RowKit Go.Maps
set_option maxHeartbeats 4000000
set_option maxRecDepth 100000
/-- What Encode answers. -/
def EncP (g : Gv) (w : World) (r : Ending) (w' : World) : Prop :=
  (∃ er : Int, er ≠ 0 ∧ r = .returned (.tuple #[.slice none 0 0, .int .i64 er]) ∧ Below w.heap.size w w') ∨
  (ckG g = 0 ∧ endL g.n (2 + 5 * g.r.length) ≤ 8192 ∧ ∃ v, r = .returned (.tuple #[v, .int .i64 0]) ∧ Ow u64v 57 w' w.heap.size v (encW g.n g.r) ∧ Below w.heap.size w w')
theorem rencode_c (w : World) (g : Gv) (hg : g.At w w.heap.size) (hs : FewP g) : Calls Try.prog 18 #[g.v] w (EncP g w) := by
  have HCk := Lib.hid (fun W (b : Below w.heap.size w W) => rcheck_c W g (hg.up b) hs)
  have HNd := Lib.hid (fun W (b : Below w.heap.size w W) => rneed_c W g (hg.up b) hs)
  obtain ⟨E, hE⟩ : ∃ E, E = EncP g w := ⟨_, rfl⟩
  have HE := Lib.hid hE
  have HG := Lib.hid (And.intro hg hs)
  obtain ⟨er, her⟩ : ∃ er, er = ckG g := ⟨_, rfl⟩
  have HEr := Lib.hid her
  rw [← her] at HCk
  obtain ⟨nd, hnd⟩ : ∃ nd, nd = 2 + 5 * (g.r.length : Int) + wordsL g.n := ⟨_, rfl⟩
  have HNn := Lib.hid hnd
  rw [← hnd] at HNd
  rw [← hE]
  obtain ⟨A, ca, A2, ca2, ns, rs⟩ := g
  obtain ⟨N, hN⟩ : ∃ N, N = ns.length := ⟨_, rfl⟩
  obtain ⟨M, hM⟩ : ∃ M, M = rs.length := ⟨_, rfl⟩
  have HN := Lib.hid (And.intro hN hM)
  have NI : (N : Int) ≤ 60 := by rw [hN]; exact Int.ofNat_le.2 hs.1
  have MI : (M : Int) ≤ 80 := by rw [hM]; exact Int.ofNat_le.2 hs.2.1
  unfold Gv.v Gv.vn Gv.vr at HCk HNd ⊢
  simp only at HCk HNd ⊢
  rw [← hN, ← hM] at HCk HNd ⊢
  clear hg hs hE her hnd hN hM
  go_enter Try.func18, Try.ntmps18
  go_wp2_with fail
  obtain ⟨G, hG⟩ : ∃ G, G = w.heap.size := ⟨_, rfl⟩
  obtain ⟨w1, hw1⟩ : ∃ W, W = w.alloc (.cells #[.slice A N ca, .slice A2 M ca2] 52) := ⟨_, rfl⟩
  have hbk : Bk w1 G 52 #[.slice A N ca, .slice A2 M ca2] := by rw [hw1, hG]; exact Bk.new w _ _
  have b1 : Below w.heap.size w w1 := by rw [hw1]; exact Gw.alloc w _
  rw [← hw1, ← hG]
  have H1 := Lib.hid (And.intro hbk b1)
  clear hw1 hG hbk b1
  refine Calls.mono (HCk.out w1 H1.out.2) ?_
  rintro r w2 ⟨rfl, b2⟩
  have H2 := Lib.hid (And.intro (H1.out.1.below b2 H1.out.1.lt) (H1.out.2.trans (b2.mono H1.out.2.size)))
  obtain ⟨g0, g1⟩ := H2.out.1.two
  clear b2
  by_cases he : er = 0
  · subst he
    go_wp2_with fail
    refine Calls.mono (HNd.out w2 H2.out.2) ?_
    rintro r w3 ⟨rfl, b3⟩
    have H3 := Lib.hid (And.intro (H2.out.1.below b3 H2.out.1.lt) (H2.out.2.trans (b3.mono H2.out.2.size)))
    clear b3 g0 g1
    obtain ⟨g0, g1⟩ := H3.out.1.two
    by_cases hlong : 8192 < nd
    · have t1 : decide ((8192 : Int) < nd) = true := decide_eq_true hlong
      go_wp2_with fail
      rw [HE.out]
      exact .inl ⟨3, by decide, rfl, H3.out.2⟩
    · have hck := ckG_ok HEr.out.symm
      have hend : (endL ns (2 + 5 * M) : Int) = nd := by
        have h1 := wordsL_end ns (fun x hx => (hck.1 x hx).2)
        rw [HNn.out]
        show _ = 2 + 5 * (rs.length : Int) + wordsL ns
        rw [h1, endL_add ns (2 + 5 * M), HN.out.2]
        omega
      obtain ⟨a0, ha0⟩ : ∃ a, a = 2 + 5 * M := ⟨_, rfl⟩
      have ha1 : (2 : Int) + 5 * (M : Int) = (a0 : Int) := by omega
      have ha2 : (a0 : Int) ≤ 8192 := by omega
      have HA := Lib.hid (And.intro ha0 (And.intro hck (show endL ns a0 ≤ 8192 by rw [ha0]; omega)))
      have HS0 : Hid (a0 = endL (ns.take 0) a0 ∧ Ow iN 3 w3 w3.heap.size (.slice none 0 0) (placeL (ns.take 0) a0) ∧ Below w3.heap.size w3 w3) := Lib.hid ⟨by simp [endL], by simp [placeL]; exact Ow.nil_ _ _ _ _, Below.refl _ _⟩
      clear hck hend ha0
      go_wp2_with fail
      go_loopw [5, 6, 7] (fun at_ pl i W => ∃ k a : Nat, at_ = .int .i64 a ∧ i = .int .i64 k ∧ k ≤ N ∧ a ≤ 8192 ∧ Hid (a = endL (ns.take k) a0 ∧ Ow iN 3 W w3.heap.size pl (placeL (ns.take k) a0) ∧ Below w3.heap.size w3 W)) (fun _ _ i _ => N - (Go.RowKit.intOf i).toNat)
      case atStart => exact ⟨0, a0, rfl, rfl, Nat.zero_le _, by omega, HS0⟩
      case round =>
        obtain ⟨k, a, rfl, rfl, hk, ha8, hS⟩ := hrel
        clear HS0
        obtain ⟨q1, q2⟩ := (H3.out.1.below hS.out.2.2 H3.out.1.lt).two
        have k0 : (0 : Int) ≤ (k : Int) := by omega
        have a8 : (a : Int) ≤ 8192 := by omega
        by_cases hlt : k < N
        · have k1 : (k : Int) < (N : Int) := by omega
          have hkl : k < ns.length := by rw [← HN.out.1]; exact hlt
          obtain ⟨x, hx⟩ : ∃ x, x = ns[k] := ⟨_, rfl⟩
          have hxl : x.ps.length ≤ 64 ∧ x.bs.length ≤ 1024 := by rw [hx]; exact (HA.out.2.1.1 _ (List.getElem_mem hkl)).2
          have hsz := szN_szG hxl.1 hxl.2
          obtain ⟨sz, hszz⟩ : ∃ z, z = szG x := ⟨_, rfl⟩
          have hplen : (placeL (ns.take k) a0).length = k := by rw [placeL_len, List.length_take, ← HN.out.1]; omega
          have htk : ns.take (k + 1) = ns.take k ++ [x] := by rw [hx]; exact take_snoc ns k hkl
          have hend : endL (ns.take (k + 1)) a0 = a + sz := by rw [htk, endL_snoc, ← hS.out.1, hszz]
          have hle : a + sz ≤ 8192 := by rw [← hend]; exact Nat.le_trans (endL_take_le ns (k + 1) a0) HA.out.2.2
          obtain ⟨ad, hA, hadl, hc2, hc3, hxat⟩ := (HG.out.1.up H3.out.2).n k hkl
          rw [← hx] at hc2 hc3
          have HSz := Lib.hid (fun W => rsz_c W x.A x.D x.ps.length x.c x.bs.length x.d)
          unfold szN at hsz
          rw [hsz, ← hszz] at HSz
          obtain ⟨A3, c3, e0, _⟩ := hS.out.2.1.form
          rw [hplen] at e0
          have HX := Lib.hid (And.intro htk (And.intro hend (And.intro hle (And.intro hplen (And.intro hS.out.1 (And.intro hS.out.2.1 hS.out.2.2))))))
          obtain ⟨xA, xc, xD, xd, xps, xbs⟩ := x
          obtain ⟨nx, hnx⟩ : ∃ z, z = xps.length := ⟨_, rfl⟩
          obtain ⟨mx, hmx⟩ : ∃ z, z = xbs.length := ⟨_, rfl⟩
          unfold Nv.vp at hc2
          unfold Nv.vd at hc3
          simp only at hc2 hc3 HSz
          rw [← hnx] at hc2 HSz
          rw [← hmx] at hc3 HSz
          have HLn := Lib.hid (show (placeL (ns.take k) a0).length + [a].length ≤ 4294967296 by rw [hplen]; simp; omega)
          have HBs := Lib.hid (show w3.heap.size ≤ wr.heap.size from hS.out.2.2.size)
          have hl9 : (ad.add (k * 2)).block < w3.heap.size := by rw [add_block]; exact hadl
          have HC := Lib.hid (fun W (hb : Below w3.heap.size w3 W) => show W.cell? ⟨G, 0, none⟩ = some (.slice A N ca) ∧ W.cell? ⟨G, 1, none⟩ = some (.slice A2 M ca2) ∧ W.cell? (ad.add (k * 2)) = some (.slice xA nx xc) ∧ W.cell? ⟨(ad.add (k * 2)).block, (ad.add (k * 2)).off + 1, none⟩ = some (.slice xD mx xd) from
            ⟨(H3.out.1.below hb H3.out.1.lt).two.1, (H3.out.1.below hb H3.out.1.lt).two.2, (hb.cell (p := ad.add (k * 2)) hl9).trans hc2, (hb.cell (p := ⟨(ad.add (k * 2)).block, (ad.add (k * 2)).off + 1, none⟩) hl9).trans hc3⟩)
          have s2 : (sz : Int) ≤ 8192 := by omega
          have s3 : (a : Int) + (sz : Int) ≤ 8192 := by omega
          have HO := Lib.hid hS.out.2.1
          subst e0 hA
          have HD := Lib.hid (And.intro hk (And.intro ha8 hlt))
          obtain ⟨q1, q2, q3, q4⟩ := HC.out wr HX.out.2.2.2.2.2.2
          clear hxat hS hend hle hplen hx hxl hsz hszz htk hc2 hc3 hadl hl9 hkl hnx hmx hk ha8 hlt g0 g1
          go_wp2_with (at_builtin; refine wp_app oneI iN_one rfl (.tmp 36) (.tmp 38) rfl w3.heap.size _ (placeL (ns.take k) a0) rfl (HO.out.alloc _) (some ⟨wr.heap.size, 0, none⟩) 1 1 [a] rfl rfl (wr.heap.size + 1) (rdN_new wr a) HLn.out (by decide) (Nat.le_trans HBs.out (Gw.alloc wr _).size) ?_; intro v6 w6 ho6 hb6 hg6 hj6; have hb7 : Below w3.heap.size w3 w6 := (HX.out.2.2.2.2.2.2.trans ((Gw.alloc wr _).mono HBs.out)).trans hb6; clear q1 q2 q3 q4; obtain ⟨q1, q2, q3, q4⟩ := HC.out w6 hb7; have H6 := Lib.hid (And.intro ho6 hb7); clear ho6 hb6 hg6 hj6 hb7)
          refine Calls.mono (HSz.out w6) ?_
          rintro r w7 ⟨rfl, b7⟩
          have H7 := Lib.hid (And.intro (H6.out.1.below b7) (H6.out.2.trans (b7.mono H6.out.2.size)))
          clear b7 q1 q2 q3 q4
          go_wp2_with fail
          go_roundw
          case rel =>
            obtain ⟨y1, y2, y3, y4, y5, y6, y7⟩ := HX.out
            have hp : placeL (ns.take (k + 1)) a0 = placeL (ns.take k) a0 ++ [a] := by rw [y1, placeL_snoc, ← y5]
            exact ⟨k + 1, a + sz, by go_num, by go_num, by have := HD.out.2.2; omega, y3, Lib.hid ⟨y2.symm, by rw [hp]; exact H7.out.1, H7.out.2⟩⟩
          case measure => simp [Go.RowKit.intOf]; have := HD.out.2.2; omega
        · have k1 : ¬ (k : Int) < (N : Int) := by omega
          have hkN : k = N := by omega
          have hst := hS.out
          rw [hkN, List.take_of_length_le (by rw [← HN.out.1]; exact Nat.le_refl _)] at hst
          have hpn : (placeL ns a0).length = N := by rw [placeL_len, ← HN.out.1]
          obtain ⟨Ap, cp, e0, _⟩ := hst.2.1.form
          rw [hpn] at e0
          have HP := Lib.hid (And.intro hst (And.intro hpn (show a ≤ 8192 from ha8)))
          have hcut := fun W (b : Below w3.heap.size w3 W) => (H3.out.1.below b H3.out.1.lt).two
          have HC := Lib.hid hcut
          subst e0
          have hb3 := H3.out.2.trans (hS.out.2.2.mono H3.out.2.size)
          have hgu := HG.out.1.up hb3
          have HW := Lib.hid (And.intro hb3 (And.intro hgu (show G < wr.heap.size from (H3.out.1.below hS.out.2.2 H3.out.1.lt).lt)))
          have HFr := Lib.hid (ow_front wr M a (by omega))
          clear hS hst hpn hcut hkN hk g0 g1 hb3 hgu
          go_wp2_with fail
          obtain ⟨B4, hB4⟩ : ∃ B, B = wr.heap.size := ⟨_, rfl⟩
          obtain ⟨w4, hw4⟩ : ∃ W, W = wr.alloc (.cells #[.int .u64 1296125772, .int .u64 ((M : Int) + (a : Int) * 65536)] 57) := ⟨_, rfl⟩
          have hfr := HFr.out
          have b4 : Below wr.heap.size wr w4 := by rw [hw4]; exact Gw.alloc wr _
          rw [← hw4] at hfr ⊢
          obtain ⟨F1, F2, F3⟩ := HW.out
          have HP4 := Lib.hid (show Rd iN w4 B4 (Ap) (placeL ns a0) ∧ Gv.At w4 B4 ⟨A, ca, A2, ca2, ns, rs⟩ ∧ G < B4 ∧ (w4.cell? ⟨G, 0, none⟩ = some (.slice A N ca) ∧ w4.cell? ⟨G, 1, none⟩ = some (.slice A2 M ca2)) ∧ Below w.heap.size w w4 ∧ B4 ≤ w4.heap.size ∧ w.heap.size ≤ B4 from by
            rw [hB4]
            have h0 := HP.out.1.2.1
            rw [← HP.out.2.1] at h0
            have h1 := h0.rd
            exact ⟨h1.below b4, F2.below b4, F3, HC.out w4 (HP.out.1.2.2.trans (b4.mono HP.out.1.2.2.size)), F1.trans (b4.mono F1.size), b4.size, F1.size⟩)
          have HS0 : Hid (Ow u64v 57 w4 B4 (.slice (some ⟨wr.heap.size, 0, none⟩) 2 2) (frontW M a ++ (rs.take 0).flatMap (rootW (placeL ns a0))) ∧ Below B4 w4 w4) := Lib.hid ⟨by rw [hB4]; simpa using hfr, Below.refl _ _⟩
          rw [← hB4] at HS0 ⊢
          have HP5 := Lib.hid (And.intro HP.out.1.1 (And.intro HP.out.2.1 HP.out.2.2))
          clear HW HFr HC HP hB4 hw4 hfr b4 F1 F2 F3 q1 q2
          go_loopw [8, 9] (fun o i W => ∃ k : Nat, i = .int .i64 k ∧ k ≤ M ∧ Hid (Ow u64v 57 W B4 o (frontW M a ++ (rs.take k).flatMap (rootW (placeL ns a0))) ∧ Below B4 w4 W)) (fun _ i _ => M - (Go.RowKit.intOf i).toNat)
          case atStart => exact ⟨0, rfl, Nat.zero_le _, HS0⟩
          case round =>
            obtain ⟨k, rfl, hk, hS⟩ := hrel
            clear HS0
            have k0 : (0 : Int) ≤ (k : Int) := by omega
            have hGB := HP4.out.2.2.1
            have q1 : wr.cell? ⟨G, 0, none⟩ = some (.slice A N ca) := (hS.out.2.cell (p := ⟨G, 0, none⟩) hGB).trans HP4.out.2.2.2.1.1
            have q2 : wr.cell? ⟨G, 1, none⟩ = some (.slice A2 M ca2) := (hS.out.2.cell (p := ⟨G, 1, none⟩) hGB).trans HP4.out.2.2.2.1.2
            by_cases hlt : k < M
            · have k1 : (k : Int) < (M : Int) := by omega
              have hkl : k < rs.length := by rw [← HN.out.2]; exact hlt
              obtain ⟨s, hs⟩ : ∃ x, x = rs[k].s := ⟨_, rfl⟩
              obtain ⟨t, ht⟩ : ∃ x, x = rs[k].t := ⟨_, rfl⟩
              have hgd := HA.out.2.1.2.2 _ (List.getElem_mem hkl)
              rw [← hs, ← ht] at hgd
              have hsz := (goodS_size hgd.1).2
              have hto := okP_iff.1 hgd.2
              have hflat : (rs.take (k + 1)).flatMap (rootW (placeL ns a0)) = (rs.take k).flatMap (rootW (placeL ns a0)) ++ (wordsW (nameW s) ++ [pointW (placeL ns a0) t]) := by
                rw [take_snoc rs k hkl, List.flatMap_append, hs, ht]
                simp [rootW]
              obtain ⟨ad, hA2, hadl, cs, ct⟩ := (HP4.out.2.1.below hS.out.2).r k hkl
              rw [← hs] at cs
              rw [← ht] at ct
              have hBw : B4 ≤ wr.heap.size := Nat.le_trans HP4.out.2.2.2.2.2.1 hS.out.2.size
              have hl9 : (ad.add (k * 2)).block < B4 := by rw [add_block]; exact hadl
              have HD := Lib.hid (And.intro hflat (And.intro hto (And.intro hsz (And.intro hl9 (And.intro ct (And.intro hBw hlt))))))
              have MI2 : (M : Int) ≤ 100000 := by omega
              have HO := Lib.hid hS.out
              subst hA2
              have hGw : G < wr.heap.size := by omega
              have hlw : (ad.add (k * 2)).block < wr.heap.size := by omega
              clear hS hs ht hgd hto hflat hadl hkl ct hl9 hlt hk hGB q1
              go_wp2_with fail
              refine en17 _ _ _ G k M ca2 ad s hGw q2 hlw cs hsz k0 k1 MI2 rfl ?_ ?_ ?_
              · rfl
              · rfl
              intro vals w5 hG5 h70 h78
              unfold IsV at h78
              simp only [putD, Act.put, List.setIfInBounds_toArray, List.set_cons_zero, List.set_cons_succ, h78]
              refine wp_nm rfl (.tmp 70) (.tmp 78) rfl wr.heap.size s _ rfl h70 HD.out.2.2.1 _ rfl rfl hG5.size ?_
              intro q c8 w6 hrd hb6
              have hb56 : Below wr.heap.size wr w6 := hG5.trans hb6
              have HRw := Lib.hid (show Calls Try.prog 42 #[.slice (some ⟨q, 0, none⟩) 32 c8] w6 (MkP u64v 57 (wordsW (nameW s)) w6) from by
                have h := rwd_c w6 _ c8 (nameW s) hrd (by rw [nameW_len HD.out.2.2.1]; omega)
                rw [nameW_len HD.out.2.2.1] at h
                exact h)
              have H6 := Lib.hid (And.intro (HO.out.1.below hb56) (And.intro hb56 (HO.out.2.trans (hb56.mono HD.out.2.2.2.2.2.1))))
              clear hrd hb6 hb56 hG5 h70 h78 q2 cs
              refine ⟨rfl, trivial, ?_⟩
              simp only [Act.put, putD]
              go_wp2_with fail
              refine Calls.mono HRw.out ?_
              rintro r w7 ⟨Aw, cw, rfl, _, how, b7⟩
              have hw4 : (wordsW (nameW s)).length = 4 := by rw [wordsW_len, nameW_len HD.out.2.2.1]
              have hL : (frontW M a ++ (rs.take k).flatMap (rootW (placeL ns a0))).length = 2 + 5 * k := by
                rw [List.length_append, roots_len _ _ (fun r hr => (goodS_size (HA.out.2.1.2.2 _ (List.mem_of_mem_take hr)).1).2), List.length_take, ← HN.out.2, Nat.min_eq_left (by have := HD.out.2.2.2.2.2.2; omega)]
                rfl
              obtain ⟨xs, hxs⟩ : ∃ xs, xs = frontW M a ++ (rs.take k).flatMap (rootW (placeL ns a0)) := ⟨_, rfl⟩
              obtain ⟨ys, hys⟩ : ∃ ys, ys = wordsW (nameW s) := ⟨_, rfl⟩
              have h8 := H6.out.1.below b7
              rw [← hxs] at h8 hL
              rw [← hys] at how hw4 ⊢
              have hrw := how.rd
              rw [hw4]
              obtain ⟨A8, c8', e8, _⟩ := h8.form
              obtain ⟨L8, hL8⟩ : ∃ L, L = xs.length := ⟨_, rfl⟩
              rw [← hL8] at e8
              have hb47 : Below B4 w4 w7 := H6.out.2.2.trans (b7.mono (Nat.le_trans HD.out.2.2.2.2.2.1 H6.out.2.1.size))
              have H7 := Lib.hid (And.intro h8 (And.intro hrw (And.intro hb47 (And.intro hw4 (show xs.length + ys.length ≤ 4294967296 by rw [hL, hw4]; have := HD.out.2.2.2.2.2.2; omega)))))
              have HXs := Lib.hid (And.intro hxs (And.intro hys (And.intro hL hL8)))
              have HB7 := Lib.hid (show B4 ≤ w7.heap.size from Nat.le_trans (Nat.le_trans HD.out.2.2.2.2.2.1 H6.out.2.1.size) b7.size)
              have HPt := Lib.hid (fun W (hb : Below B4 w4 W) => point_c W Ap cp (placeL ns a0) (((HP4.out.1.below hb).more (Nat.le_trans HP4.out.2.2.2.2.2.1 hb.size))) t HD.out.2.1.1 (by rw [HP5.out.2.1, HN.out.1]; exact HD.out.2.1.2) (by rw [HP5.out.2.1]; omega) (fun x hx => by have h := placeL_lt ns a0 x hx; have := HA.out.2.2; omega))
              rw [HP5.out.2.1] at HPt
              have HCt := Lib.hid (fun W (hb : Below B4 wr W) => show W.cell? ⟨G, 1, none⟩ = some (.slice (some ad) M ca2) ∧ W.cell? ⟨(ad.add (k * 2)).block, (ad.add (k * 2)).off + 1, none⟩ = some (.int .i64 t) from
                ⟨((HO.out.2.trans hb).cell (p := ⟨G, 1, none⟩) HP4.out.2.2.1).trans HP4.out.2.2.2.1.2, (hb.cell (p := ⟨(ad.add (k * 2)).block, (ad.add (k * 2)).off + 1, none⟩) HD.out.2.2.2.1).trans HD.out.2.2.2.2.1⟩)
              have HWr7 := Lib.hid (show Below B4 wr w7 from (H6.out.2.1.mono HD.out.2.2.2.2.2.1).trans (b7.mono (Nat.le_trans HD.out.2.2.2.2.2.1 H6.out.2.1.size)))
              subst e8
              clear how b7 hw4 hL hxs hys h8 hrw hL8 hb47 hlw hGw hsz hBw
              go_wp2_with (at_builtin; refine wp_app one64 u64v_one rfl (.tmp 80) (.tmp 82) rfl B4 _ xs rfl H7.out.1 Aw 4 cw ys rfl H7.out.2.2.2.1.symm w7.heap.size H7.out.2.1 H7.out.2.2.2.2 (by decide) HB7.out ?_; intro v8 w8 ho8 hb8 hg8 hj8; have hbr := HWr7.out.trans hb8; obtain ⟨d1, d2⟩ := HCt.out w8 hbr; obtain ⟨A9, c9, e9, _⟩ := ho8.form; obtain ⟨L9, hL9⟩ : ∃ L, L = (xs ++ ys).length := ⟨_, rfl⟩; rw [← hL9] at e9; have H8 := Lib.hid (And.intro ho8 (And.intro (H7.out.2.2.1.trans hb8) (And.intro hbr hL9))); subst e9; clear ho8 hb8 hg8 hj8 hbr hL9)
              refine Calls.mono (HPt.out w8 H8.out.2.1) ?_
              rintro r w9 ⟨rfl, b9⟩
              obtain ⟨pw, hpw⟩ : ∃ y, y = pointW (placeL ns a0) t := ⟨_, rfl⟩
              rw [← hpw]
              have hB8 : B4 ≤ w8.heap.size := Nat.le_trans HP4.out.2.2.2.2.2.1 H8.out.2.1.size
              have h9 : Ow u64v 57 w9 B4 (.slice A9 L9 c9) (xs ++ ys) := H8.out.1.below b9
              have hR : Rd u64v (w9.alloc (.cells #[.int .u64 (U64 pw)] 57)) (w9.heap.size + 1) (some ⟨w9.heap.size, 0, none⟩) [pw] := rd1_new rfl
              have H9 := Lib.hid (And.intro h9 (And.intro (H8.out.2.1.trans (b9.mono hB8)) (And.intro hR (And.intro (show (xs ++ ys).length + [pw].length ≤ 4294967296 by rw [List.length_append, HXs.out.2.2.1, H7.out.2.2.2.1]; have := HD.out.2.2.2.2.2.2; simp; omega) (And.intro (show B4 ≤ (w9.alloc (.cells #[.int .u64 (U64 pw)] 57)).heap.size from Nat.le_trans (Nat.le_trans hB8 b9.size) (Gw.alloc w9 _).size) hpw)))))
              clear b9 h9 hR hB8 hpw d1 d2
              go_wp2_with (at_builtin; refine wp_app one64 u64v_one rfl (.tmp 84) (.tmp 93) rfl B4 _ (xs ++ ys) rfl (H9.out.1.alloc _) (some ⟨w9.heap.size, 0, none⟩) 1 1 [pw] rfl rfl (w9.heap.size + 1) H9.out.2.2.1 H9.out.2.2.2.1 (by decide) H9.out.2.2.2.2.1 ?_; intro v10 w10 ho10 hb10 hg10 hj10; have H10 := Lib.hid (And.intro ho10 ((H9.out.2.1.trans ((Gw.alloc w9 _).mono (Nat.le_trans HP4.out.2.2.2.2.2.1 H9.out.2.1.size))).trans hb10)); clear ho10 hb10 hg10 hj10)
              go_roundw
              case rel =>
                refine ⟨k + 1, by go_num, by have := HD.out.2.2.2.2.2.2; omega, Lib.hid ⟨?_, H10.out.2⟩⟩
                rw [HD.out.1, ← HXs.out.2.1, ← H9.out.2.2.2.2.2, ← List.append_assoc, ← List.append_assoc, ← HXs.out.1]
                exact H10.out.1
              case measure => simp [Go.RowKit.intOf]; have := HD.out.2.2.2.2.2.2; omega
            · have k1 : ¬ (k : Int) < (M : Int) := by omega
              have hkM : k = M := by omega
              have hst := hS.out
              rw [hkM, List.take_of_length_le (by rw [← HN.out.2]; exact Nat.le_refl _)] at hst
              have hL : (frontW M a ++ rs.flatMap (rootW (placeL ns a0))).length = 2 + 5 * M := by
                rw [List.length_append, roots_len _ _ (fun r hr => (goodS_size (HA.out.2.1.2.2 _ hr).1).2), ← HN.out.2]
                rfl
              obtain ⟨fr, hfr⟩ : ∃ xs, xs = frontW M a ++ rs.flatMap (rootW (placeL ns a0)) := ⟨_, rfl⟩
              rw [← hfr] at hst hL
              have HFr := Lib.hid (And.intro hfr hL)
              have HS1 : Hid (Ow u64v 57 wr B4 u8 (fr ++ (ns.take 0).flatMap (nodeW (placeL ns a0))) ∧ Below B4 w4 wr) := Lib.hid ⟨by simpa using hst.1, hst.2⟩
              clear hS hst hfr hkM hk hL hGB
              go_wp2_with fail
              clear q1 q2
              go_loopw [8, 11] (fun o i W => ∃ k : Nat, i = .int .i64 k ∧ k ≤ N ∧ Hid (Ow u64v 57 W B4 o (fr ++ (ns.take k).flatMap (nodeW (placeL ns a0))) ∧ Below B4 w4 W)) (fun _ i _ => N - (Go.RowKit.intOf i).toNat)
              case atStart => exact ⟨0, rfl, Nat.zero_le _, HS1⟩
              case round =>
                obtain ⟨k, rfl, hk, hS⟩ := hrel
                clear HS1
                have k0 : (0 : Int) ≤ (k : Int) := by omega
                have q1 : wr.cell? ⟨G, 0, none⟩ = some (.slice A N ca) := (hS.out.2.cell (p := ⟨G, 0, none⟩) HP4.out.2.2.1).trans HP4.out.2.2.2.1.1
                by_cases hlt : k < N
                · have k1 : (k : Int) < (N : Int) := by omega
                  have hkl : k < ns.length := by rw [← HN.out.1]; exact hlt
                  obtain ⟨x, hx⟩ : ∃ x, x = ns[k] := ⟨_, rfl⟩
                  obtain ⟨ad, hA, hadl, hc2, hc3, hxatw⟩ := (HP4.out.2.1.below hS.out.2).n k hkl
                  have hxat : Nv.At w4 B4 ns[k] := by
                    obtain ⟨_, _, _, _, _, h⟩ := HP4.out.2.1.n k hkl
                    exact h
                  clear hxatw
                  rw [← hx] at hc2 hc3 hxat
                  have hok := HA.out.2.1.1 _ (List.getElem_mem hkl)
                  rw [← hx] at hok
                  have htk : (ns.take (k + 1)).flatMap (nodeW (placeL ns a0)) = (ns.take k).flatMap (nodeW (placeL ns a0)) ++ (headW x :: (x.ps.map (pointW (placeL ns a0)) ++ wordsW x.bs)) := by
                    rw [hx, take_snoc ns k hkl, List.flatMap_append]
                    simp [nodeW]
                  have hpc : headW x = packH (x.ps.length : Int) (x.bs.length : Int) false 0 := rfl
                  obtain ⟨hw0, hhw⟩ : ∃ h, h = headW x := ⟨_, rfl⟩
                  rw [← hhw] at htk hpc
                  have hBw : B4 ≤ wr.heap.size := Nat.le_trans HP4.out.2.2.2.2.2.1 hS.out.2.size
                  obtain ⟨xA, xc, xD, xd, xps, xbs⟩ := x
                  unfold Nv.vp at hc2
                  unfold Nv.vd at hc3
                  simp only at hc2 hc3 htk hok hpc
                  obtain ⟨nx, hnx⟩ : ∃ z, z = xps.length := ⟨_, rfl⟩
                  obtain ⟨mx, hmx⟩ : ∃ z, z = xbs.length := ⟨_, rfl⟩
                  have HPk := Lib.hid (fun W => rpack_c (xps.length : Int) (xbs.length : Int) false 0 W)
                  rw [← hpc] at HPk
                  rw [← hnx] at hc2 HPk
                  rw [← hmx] at hc3 HPk
                  obtain ⟨eh, heh⟩ : ∃ e, e = errH (nx : Int) (mx : Int) false 0 := ⟨_, rfl⟩
                  rw [← heh] at HPk
                  clear heh
                  obtain ⟨xs, hxs⟩ : ∃ xs, xs = fr ++ (ns.take k).flatMap (nodeW (placeL ns a0)) := ⟨_, rfl⟩
                  have hxl : xs.length ≤ 8192 := by
                    rw [hxs, List.length_append, nodes_len, HFr.out.2]
                    have h1 := endL_take_le ns k a0
                    have h2 := HA.out.2.2
                    have h3 := endL_add (ns.take k) a0
                    have h4 := HA.out.1
                    omega
                  have hO8 := hS.out.1
                  rw [← hxs] at hO8
                  obtain ⟨A8, c8', e8, _⟩ := hO8.form
                  obtain ⟨L8, hL8⟩ : ∃ L, L = xs.length := ⟨_, rfl⟩
                  rw [← hL8] at e8
                  have HXs := Lib.hid (And.intro hxs (And.intro hxl hL8))
                  have HO8 := Lib.hid hO8
                  have hxs2 : nx ≤ 64 ∧ mx ≤ 1024 := by rw [hnx, hmx]; exact hok.2
                  have n64 : (nx : Int) ≤ 64 := by omega
                  have m64 : (mx : Int) ≤ 1024 := by omega
                  have HN2 := Lib.hid hxs2
                  clear hxs hxl hO8 hL8 hxs2
                  subst e8
                  have HD := Lib.hid (And.intro htk (And.intro hok (And.intro hxat (And.intro hnx (And.intro hmx (And.intro hBw hlt))))))
                  have HO := Lib.hid hS.out
                  subst hA
                  clear hS htk hok hxat hnx hmx hBw hlt hx hkl hadl hhw hpc hk
                  go_wp2_with fail
                  obtain ⟨Hb, hHb⟩ : ∃ H, H = wr.heap.size := ⟨_, rfl⟩
                  obtain ⟨w5, hw5⟩ : ∃ W, W = wr.alloc (.cells #[.slice xA nx xc, .slice xD mx xd] 102) := ⟨_, rfl⟩
                  have hbk : Bk w5 Hb 102 #[.slice xA nx xc, .slice xD mx xd] := by rw [hw5, hHb]; exact Bk.new wr _ _
                  have b5 : Below wr.heap.size wr w5 := by rw [hw5]; exact Gw.alloc wr _
                  rw [← hw5, ← hHb]
                  refine Calls.mono (HPk.out w5) ?_
                  rintro r w6 ⟨rfl, b6⟩
                  have b06 := b5.trans (b6.mono b5.size)
                  have hB6 : B4 ≤ wr.heap.size := HD.out.2.2.2.2.2.1
                  have hbk6 := hbk.below b6 hbk.lt
                  have hR : Rd u64v (w6.alloc (.cells #[.int .u64 (U64 hw0)] 57)) (w6.heap.size + 1) (some ⟨w6.heap.size, 0, none⟩) [hw0] := rd1_new rfl
                  have hne : ∀ j, (Value.slice A8 L8 c8').ownBlock = some j → j ≠ Hb := fun j hj e => by have := (HO8.out.lt j hj).2; omega
                  have H6 := Lib.hid (And.intro hbk6 (And.intro (HO8.out.below b06) (And.intro (HO.out.2.trans (b06.mono hB6)) (And.intro hR (And.intro (show B4 ≤ (w6.alloc (.cells #[.int .u64 (U64 hw0)] 57)).heap.size from Nat.le_trans (Nat.le_trans hB6 b06.size) (Gw.alloc w6 _).size) (And.intro hne (show xs.length + [hw0].length ≤ 4294967296 by have := HXs.out.2.1; simp; omega)))))))
                  clear hHb hw5 hbk b5 b6 b06 hbk6 hR hne hB6 q1 hc2 hc3
                  go_wp2_with (at_builtin; refine wp_app one64 u64v_one rfl (.tmp 118) (.tmp 120) rfl B4 _ xs rfl (H6.out.2.1.alloc _) (some ⟨w6.heap.size, 0, none⟩) 1 1 [hw0] rfl rfl (w6.heap.size + 1) H6.out.2.2.2.1 H6.out.2.2.2.2.2.2 (by decide) H6.out.2.2.2.2.1 ?_; intro v7 w7 ho7 hb7 hg7 hj7; have H7 := Lib.hid (And.intro ho7 (And.intro (((H6.out.2.2.1).trans ((Gw.alloc w6 _).mono (Nat.le_trans HP4.out.2.2.2.2.2.1 H6.out.2.2.1.size))).trans hb7) (And.intro ((hg7.block Hb (H6.out.1.alloc _).lt (fun e => H6.out.2.2.2.2.2.1 _ e.symm rfl)).trans (H6.out.1.alloc _)) (show ∀ j, v7.ownBlock = some j → j ≠ Hb from fun j hj e => by rcases hj7 with h | h <;> rw [h] at hj <;> first | exact H6.out.2.2.2.2.2.1 _ hj e | (injection hj with hj; have h1 := H6.out.1.lt; have h2 := (Gw.alloc w6 (.cells #[.int .u64 (U64 hw0)] 57)).size; omega))))); clear ho7 hb7 hg7 hj7)
                  have HS2 : Hid (Ow u64v 57 w7 B4 v7 (xs ++ hw0 :: (xps.take 0).map (pointW (placeL ns a0))) ∧ Below B4 w4 w7 ∧ Bk w7 Hb 102 #[.slice xA nx xc, .slice xD mx xd] ∧ ∀ q, v7.ownBlock = some q → q ≠ Hb) := Lib.hid ⟨H7.out.1, H7.out.2.1, H7.out.2.2.1, H7.out.2.2.2⟩
                  clear H7 H6 HPk
                  go_loopw [8, 15] (fun o i W => ∃ j : Nat, i = .int .i64 j ∧ j ≤ nx ∧ Hid (Ow u64v 57 W B4 o (xs ++ hw0 :: (xps.take j).map (pointW (placeL ns a0))) ∧ Below B4 w4 W ∧ Bk W Hb 102 #[.slice xA nx xc, .slice xD mx xd] ∧ ∀ q, o.ownBlock = some q → q ≠ Hb)) (fun _ i _ => nx - (Go.RowKit.intOf i).toNat)
                  case atStart => exact ⟨0, rfl, Nat.zero_le _, HS2⟩
                  case round =>
                    obtain ⟨j, rfl, hj, hS⟩ := hrel
                    clear HS2
                    have j0 : (0 : Int) ≤ (j : Int) := by omega
                    obtain ⟨d1, d2⟩ := hS.out.2.2.1.two
                    obtain ⟨zs, hzs⟩ : ∃ zs, zs = xs ++ hw0 :: (xps.take j).map (pointW (placeL ns a0)) := ⟨_, rfl⟩
                    have hzl : zs.length = L8 + 1 + j := by
                      rw [hzs, List.length_append, List.length_cons, List.length_map, List.length_take, ← HD.out.2.2.2.1, ← HXs.out.2.2, Nat.min_eq_left hj]
                      omega
                    have hO := hS.out.1
                    rw [← hzs] at hO
                    obtain ⟨A9, c9, e9, _⟩ := hO.form
                    obtain ⟨L9, hL9⟩ : ∃ L, L = zs.length := ⟨_, rfl⟩
                    rw [← hL9] at e9
                    have HZ := Lib.hid (And.intro hO (And.intro hzs (And.intro hzl (And.intro hS.out.2.1 (And.intro hS.out.2.2.1 (And.intro (e9 ▸ hS.out.2.2.2) hj))))))
                    subst e9
                    clear hO hzs hzl hL9
                    by_cases hlt : j < nx
                    · have j1 : (j : Int) < (nx : Int) := by omega
                      have hjl : j < xps.length := by rw [← HD.out.2.2.2.1]; exact hlt
                      obtain ⟨p, hp⟩ : ∃ p, p = xps[j] := ⟨_, rfl⟩
                      have hpk := okP_iff.1 (HD.out.2.1.1 _ (List.getElem_mem hjl))
                      rw [← hp] at hpk
                      obtain ⟨ad3, hA3, had3, hc9⟩ := (HD.out.2.2.1.p.below hS.out.2.1).at_ hjl
                      rw [← hp] at hc9
                      unfold iV at hc9
                      have hA3 : xA = some ad3 := hA3
                      have htk2 : (xps.take (j + 1)).map (pointW (placeL ns a0)) = (xps.take j).map (pointW (placeL ns a0)) ++ [pointW (placeL ns a0) p] := by
                        rw [take_snoc xps j hjl, List.map_append, hp]
                        rfl
                      have HPt := Lib.hid (fun W (hb : Below B4 w4 W) => point_c W Ap cp (placeL ns a0) (((HP4.out.1.below hb).more (Nat.le_trans HP4.out.2.2.2.2.2.1 hb.size))) p hpk.1 (by rw [HP5.out.2.1, HN.out.1]; exact hpk.2) (by rw [HP5.out.2.1]; omega) (fun x hx => by have h := placeL_lt ns a0 x hx; have := HA.out.2.2; omega))
                      rw [HP5.out.2.1] at HPt
                      have HTk := Lib.hid (And.intro htk2 hlt)
                      clear hS hpk hp htk2 hlt hj had3 hjl
                      subst hA3
                      go_wp2_with fail
                      refine Calls.mono (HPt.out wr HZ.out.2.2.2.1) ?_
                      rintro r w9 ⟨rfl, b9⟩
                      obtain ⟨pw, hpw⟩ : ∃ y, y = pointW (placeL ns a0) p := ⟨_, rfl⟩
                      rw [← hpw]
                      have hB8 : B4 ≤ wr.heap.size := Nat.le_trans HP4.out.2.2.2.2.2.1 HZ.out.2.2.2.1.size
                      have hR : Rd u64v (w9.alloc (.cells #[.int .u64 (U64 pw)] 57)) (w9.heap.size + 1) (some ⟨w9.heap.size, 0, none⟩) [pw] := rd1_new rfl
                      have H9 := Lib.hid (And.intro (HZ.out.1.below b9) (And.intro (HZ.out.2.2.2.1.trans (b9.mono hB8)) (And.intro hR (And.intro (show zs.length + [pw].length ≤ 4294967296 by rw [HZ.out.2.2.1, HXs.out.2.2]; have := HXs.out.2.1; have := HN2.out; have := HZ.out.2.2.2.2.2.2; simp; omega) (And.intro (show B4 ≤ (w9.alloc (.cells #[.int .u64 (U64 pw)] 57)).heap.size from Nat.le_trans (Nat.le_trans hB8 b9.size) (Gw.alloc w9 _).size) (And.intro hpw (HZ.out.2.2.2.2.1.below b9 HZ.out.2.2.2.2.1.lt)))))))
                      clear b9 hR hB8 hpw d1 d2 hc9
                      go_wp2_with (at_builtin; refine wp_app one64 u64v_one rfl (.tmp 129) (.tmp 137) rfl B4 _ zs rfl (H9.out.1.alloc _) (some ⟨w9.heap.size, 0, none⟩) 1 1 [pw] rfl rfl (w9.heap.size + 1) H9.out.2.2.1 H9.out.2.2.2.1 (by decide) H9.out.2.2.2.2.1 ?_; intro v10 w10 ho10 hb10 hg10 hj10; have H10 := Lib.hid (And.intro ho10 (And.intro ((H9.out.2.1.trans ((Gw.alloc w9 _).mono (Nat.le_trans HP4.out.2.2.2.2.2.1 H9.out.2.1.size))).trans hb10) (And.intro ((hg10.block Hb (H9.out.2.2.2.2.2.2.alloc _).lt (fun e => HZ.out.2.2.2.2.2.1 _ e.symm rfl)).trans (H9.out.2.2.2.2.2.2.alloc _)) (show ∀ j, v10.ownBlock = some j → j ≠ Hb from fun j hj e => by rcases hj10 with h | h <;> rw [h] at hj <;> first | exact HZ.out.2.2.2.2.2.1 _ hj e | (injection hj with hj; have h1 := H9.out.2.2.2.2.2.2.lt; have h2 := (Gw.alloc w9 (.cells #[.int .u64 (U64 pw)] 57)).size; omega))))); clear ho10 hb10 hg10 hj10)
                      go_roundw
                      case rel =>
                        refine ⟨j + 1, by go_num, HTk.out.2, Lib.hid ⟨?_, H10.out.2.1, H10.out.2.2.1, H10.out.2.2.2⟩⟩
                        have h := H10.out.1
                        rw [HZ.out.2.1, H9.out.2.2.2.2.2.1, List.append_assoc, List.cons_append, ← HTk.out.1] at h
                        exact h
                      case measure => simp [Go.RowKit.intOf]; have := HTk.out.2; omega
                    · have j1 : ¬ (j : Int) < (nx : Int) := by omega
                      have hjn : j = nx := by omega
                      have hz2 : zs = xs ++ hw0 :: xps.map (pointW (placeL ns a0)) := by
                        rw [HZ.out.2.1, hjn, HD.out.2.2.2.1, List.take_length]
                      have HRw := Lib.hid (fun W (hb : Below B4 w4 W) => rwd_c W xD xd xbs ((HD.out.2.2.1.b.below hb).more (Nat.le_trans HP4.out.2.2.2.2.2.1 hb.size)) (by have h : xbs.length ≤ 1024 := HD.out.2.1.2.2; omega))
                      rw [← HD.out.2.2.2.2.1] at HRw
                      have HZ2 := Lib.hid hz2
                      clear hS hz2 hjn hlt hj
                      go_wp2_with fail
                      refine Calls.mono (HRw.out wr HZ.out.2.2.2.1) ?_
                      rintro r w9 ⟨Aw, cw, rfl, _, how, b9⟩
                      have hyl : (wordsW xbs).length ≤ 200 := by rw [wordsW_len]; have h : xbs.length ≤ 1024 := HD.out.2.1.2.2; omega
                      obtain ⟨ys, hys⟩ : ∃ ys, ys = wordsW xbs := ⟨_, rfl⟩
                      rw [← hys] at how hyl ⊢
                      have hrd := how.rd
                      obtain ⟨n2, hn2⟩ : ∃ n, n = ys.length := ⟨_, rfl⟩
                      rw [← hn2]
                      have hB8 : B4 ≤ wr.heap.size := Nat.le_trans HP4.out.2.2.2.2.2.1 HZ.out.2.2.2.1.size
                      have H9 := Lib.hid (And.intro (HZ.out.1.below b9) (And.intro (HZ.out.2.2.2.1.trans (b9.mono hB8)) (And.intro hrd (And.intro (show zs.length + ys.length ≤ 4294967296 by rw [HZ.out.2.2.1, HXs.out.2.2]; have := HXs.out.2.1; have := HN2.out; have := HZ.out.2.2.2.2.2.2; omega) (And.intro (Nat.le_trans hB8 b9.size) (And.intro hn2 hys))))))
                      clear how b9 hyl hrd hB8 hys hn2 d2 d1
                      go_wp2_with (at_builtin; refine wp_app one64 u64v_one rfl (.tmp 139) (.tmp 142) rfl B4 _ zs rfl H9.out.1 Aw n2 cw ys rfl H9.out.2.2.2.2.2.1 w9.heap.size H9.out.2.2.1 H9.out.2.2.2.1 (by decide) H9.out.2.2.2.2.1 ?_; intro v10 w10 ho10 hb10 hg10 hj10; have H10 := Lib.hid (And.intro ho10 (H9.out.2.1.trans hb10)); clear ho10 hb10 hg10 hj10)
                      go_roundw
                      case rel =>
                        refine ⟨k + 1, by go_num, HD.out.2.2.2.2.2.2, Lib.hid ⟨?_, H10.out.2⟩⟩
                        have h := H10.out.1
                        rw [HZ2.out, H9.out.2.2.2.2.2.2, HXs.out.1] at h
                        rw [HD.out.1]
                        simpa only [List.append_assoc, List.cons_append] using h
                      case measure => simp [Go.RowKit.intOf]; have := HD.out.2.2.2.2.2.2; omega
                · have k1 : ¬ (k : Int) < (N : Int) := by omega
                  have hkN : k = N := by omega
                  have hst := hS.out
                  rw [hkN, List.take_of_length_le (by rw [← HN.out.1]; exact Nat.le_refl _)] at hst
                  have HR := Lib.hid hst
                  clear hS hst
                  go_wp2_with fail
                  rw [HE.out]
                  refine .inr ⟨HEr.out.symm, by have := HA.out.2.2; rw [HA.out.1, HN.out.2] at this; exact this, _, rfl, ?_, HP4.out.2.2.2.2.1.trans (HR.out.2.mono HP4.out.2.2.2.2.2.2)⟩
                  have h := HR.out.1
                  rw [HFr.out.1] at h
                  have e : encW ns rs = frontW M a ++ rs.flatMap (rootW (placeL ns a0)) ++ ns.flatMap (nodeW (placeL ns a0)) := by
                    unfold encW
                    rw [← HN.out.2, ← HA.out.1, ← HP5.out.1]
                  show Ow u64v 57 _ w.heap.size _ (encW ns rs)
                  rw [e]
                  exact ⟨h.1, h.2.imp id (fun ⟨g, cap, cur, e, hb, r⟩ => ⟨g, cap, cur, e, Nat.le_trans HP4.out.2.2.2.2.2.2 hb, r⟩)⟩
  · have e1 : (er != 0) = true := by simpa using he
    have HEn := Lib.hid he
    clear he
    go_wp2_with fail
    rw [HE.out]
    exact .inl ⟨er, HEn.out, rfl, H2.out.2⟩
end Go.Proofs.Ytaminpfgkegibaa
/- append(row, make([]uint64, k)...); the second word of a graph's words. Conditions: lengths. -/
namespace Go.Proofs.Ytaminpfgkegibaa
set_option linter.unusedVariables false
set_option linter.unusedSimpArgs false
open Go.RowKit
theorem field_hi (n : Nat) (h : n < 1099511627776) : U64 (fieldB (BitVec.ofNat 64 n) 48 16) = 0 := by
  unfold fieldB
  rw [if_pos (by decide)]
  have e : BitVec.ofNat 64 n >>> (48 : Int).toNat = 0#64 := by
    apply BitVec.eq_of_toNat_eq
    rw [BitVec.toNat_ushiftRight, BitVec.toNat_ofNat, Nat.mod_eq_of_lt (by omega)]
    show n >>> 48 = 0
    rw [Nat.shiftRight_eq_div_pow]
    exact Nat.div_eq_of_lt (by omega)
  rw [e]
  decide +kernel
theorem field_mid (R t : Nat) (hR : R < 65536) (ht : t < 16777216) : U64 (fieldB (BitVec.ofNat 64 (R + t * 65536)) 16 32) = (t : Int) := by
  unfold fieldB
  rw [if_pos (by decide)]
  have e : (BitVec.ofNat 64 (R + t * 65536) >>> (16 : Int).toNat) = BitVec.ofNat 64 t := by
    apply BitVec.eq_of_toNat_eq
    rw [BitVec.toNat_ushiftRight, BitVec.toNat_ofNat, BitVec.toNat_ofNat, Nat.mod_eq_of_lt (by omega), Nat.mod_eq_of_lt (by omega)]
    show (R + t * 65536) >>> 16 = t
    rw [Nat.shiftRight_eq_div_pow]
    omega
  rw [e]
  unfold U64
  rw [BitVec.toNat_and, lowB_nat 32 (by decide) (by decide), BitVec.toNat_ofNat, Nat.mod_eq_of_lt (by omega)]
  show ((t &&& (2 ^ 32 - 1) : Nat) : Int) = t
  rw [Nat.and_two_pow_sub_one_eq_mod, Nat.mod_eq_of_lt (by omega)]
end Go.Proofs.Ytaminpfgkegibaa
/- In the image of a graph nothing is wrong (pure; then Image). Conditions: a graph that Check lets. -/
namespace Go.Proofs.Ytaminpfgkegibaa
set_option linter.unusedVariables false
set_option linter.unusedSimpArgs false
open Go.RowKit Go.Maps
set_option maxHeartbeats 1000000
theorem index_neg : ∀ l : List UInt8, Lib.indexByte l 0 < 0 → ∀ b ∈ l, b ≠ 0
  | [], _, b, hb => by cases hb
  | x :: l, h, b, hb => by
    have e : Lib.indexByte (x :: l) 0 = if (x == 0) = true then 0 else if (Lib.indexByte l 0 == -1) = true then -1 else Lib.indexByte l 0 + 1 := rfl
    rw [e] at h
    by_cases h1 : (x == 0) = true
    · rw [if_pos h1] at h; omega
    · rw [if_neg h1] at h
      have hl : Lib.indexByte l 0 < 0 := by
        by_cases h2 : (Lib.indexByte l 0 == -1) = true
        · have := eq_of_beq h2; omega
        · rw [if_neg h2] at h; omega
      rcases List.mem_cons.1 hb with rfl | hb
      · intro e0; rw [e0] at h1; exact h1 rfl
      · exact index_neg l hl b hb
def bitsOf (s : ByteArray) : Nm := s.data.toList.map UInt8.toBitVec
theorem strB_bits (s : ByteArray) : strB (bitsOf s) = s := by
  apply ByteArray.ext
  show (strL (s.data.toList.map UInt8.toBitVec)).toArray = s.data
  unfold strL
  rw [List.map_map, show (UInt8.ofBitVec ∘ UInt8.toBitVec) = id from rfl, List.map_id]
theorem bitsOf_len (s : ByteArray) : (bitsOf s).length = s.size := by
  unfold bitsOf
  rw [List.length_map]
  rfl
theorem good_bits {s : ByteArray} (h : goodS s = true) : goodN (bitsOf s) := by
  obtain ⟨h1, h2⟩ := goodS_size h
  have hl := bitsOf_len s
  refine ⟨by omega, by omega, fun x hx e => ?_⟩
  unfold goodS at h
  simp only [Bool.and_eq_true, decide_eq_true_eq] at h
  unfold bitsOf at hx
  obtain ⟨b, hb, rfl⟩ := List.mem_map.1 hx
  refine index_neg _ h.2.2 b hb ?_
  have := congrArg UInt8.ofBitVec e
  exact this
theorem nameW_pad (s : ByteArray) : nameW s = padNm (bitsOf s) := by
  unfold nameW padNm
  rw [bitsOf_len]
  rfl
theorem name_ok {s : ByteArray} (h : goodS s = true) : nmOk (nameW s) = true ∧ strB (cutN (nameW s)) = s := by
  have hg := good_bits h
  have hc := good_cut hg
  rw [nameW_pad]
  refine ⟨decide_eq_true ⟨?_, ?_⟩, ?_⟩
  · rw [hc]; exact hg
  · rw [hc]
  · rw [hc]; exact strB_bits s
theorem ckRoots_go {N : Nat} {s : ByteArray} {l : List Rv} {k : Nat} (h : k < l.length) (hc : ckRoots N s (l.drop k) = 0) : leS (l[k]).s s = false ∧ ckRoots N (l[k]).s (l.drop (k + 1)) = 0 := by
  rw [ckRoots_drop N s l k h] at hc
  by_cases h1 : goodS (l[k]).s = true ∧ leS (l[k]).s s = false
  · rw [if_pos h1] at hc
    by_cases h2 : okP N (l[k]).t = true
    · rw [if_pos h2] at hc; exact ⟨h1.2, hc⟩
    · rw [if_neg h2] at hc; cases hc
  · rw [if_neg h1] at hc; cases hc
theorem roots_nil {ns : List Nv} {rs : List Rv} (hr : ∀ r ∈ rs, goodS r.s = true ∧ okP ns.length r.t = true) (ht : endL ns (2 + 5 * rs.length) ≤ 8192) : ∀ (k i : Nat) (ab : ByteArray), i + k = rs.length → ckRoots ns.length ab (rs.drop i) = 0 → rootF (encW ns rs) (placeL ns (2 + 5 * rs.length)) k i ab = []
  | 0, _, _, _, _ => rfl
  | k + 1, i, ab, hi, hc => by
    have hil : i < rs.length := by omega
    obtain ⟨h1, h2⟩ := ckRoots_go hil hc
    obtain ⟨e1, e2⟩ := enc_root hr ht i hil
    obtain ⟨n1, n2⟩ := name_ok (hr _ (List.getElem_mem hil)).1
    have a1 : nmAt (encW ns rs) i = nameW rs[i].s := e1
    have a2 : nmS (encW ns rs) i = rs[i].s := by unfold nmS; rw [a1, n2]
    have a3 : leadB (encW ns rs) (placeL ns (2 + 5 * rs.length)) (2 + 5 * i + 4) = true := decide_eq_true e2
    have a4 : lessS rs[i].s ab = false := h1
    have ih := roots_nil hr ht k (i + 1) rs[i].s (by omega) h2
    unfold rootF rootE
    rw [a1, n1, a2, a3, a4]
    simpa using ih
theorem ckG_roots {g : Gv} (h : ckG g = 0) : ckRoots g.n.length ⟨#[]⟩ g.r = 0 := by
  unfold ckG at h
  by_cases h1 : ckNodes g.n.length g.n = 0
  · rw [if_pos h1] at h
    by_cases h2 : 64 < g.r.length
    · rw [if_pos h2] at h; cases h
    · rw [if_neg h2] at h; exact h
  · rw [if_neg h1] at h; exact absurd h h1
theorem ins_nil {g : Gv} (h : ckG g = 0) (ht : endL g.n (2 + 5 * g.r.length) ≤ 8192) : (foundN (encW g.n g.r) (encW g.n g.r).length ((encW g.n g.r).length + 1) (2 + 5 * g.r.length)).2 = none ∧ insF (encW g.n g.r) g.r.length = [] := by
  obtain ⟨h1, h2, h3⟩ := ckG_ok h
  obtain ⟨f1, f2⟩ := enc_found h1 h3 ht
  refine ⟨by rw [f1], ?_⟩
  unfold insF
  rw [f1, f2, roots_nil h3 ht g.r.length 0 _ (Nat.zero_add _) (by rw [List.drop_zero]; exact ckG_roots h)]
  rfl
theorem field_low (R t : Nat) (hR : R < 65536) (ht : t < 16777216) : U64 (fieldB (BitVec.ofNat 64 (R + t * 65536)) 0 16) = (R : Int) := by
  unfold fieldB
  rw [if_pos (by decide)]
  have e : (BitVec.ofNat 64 (R + t * 65536) >>> (0 : Int).toNat) = BitVec.ofNat 64 (R + t * 65536) := by
    show BitVec.ofNat 64 (R + t * 65536) >>> (0 : Nat) = _
    exact BitVec.ushiftRight_zero _
  rw [e]
  unfold U64
  rw [BitVec.toNat_and, lowB_nat 16 (by decide) (by decide), BitVec.toNat_ofNat, Nat.mod_eq_of_lt (by omega)]
  show ((R + t * 65536 &&& (2 ^ 16 - 1) : Nat) : Int) = R
  rw [Nat.and_two_pow_sub_one_eq_mod]
  omega
/-- Image of the words of a graph. -/
theorem imageE_c (w : World) (q c n : Nat) (g : Gv) (h : ckG g = 0) (ht : endL g.n (2 + 5 * g.r.length) ≤ 8192) (hn : n = (encW g.n g.r).length) (hr : Rd u64v w w.heap.size (some ⟨q, 0, none⟩) (encW g.n g.r)) : Calls Try.prog 8 #[.slice (some ⟨q, 0, none⟩) n c] w (FiP [] w) := by
  obtain ⟨h1, h2, h3⟩ := ckG_ok h
  have hlen := encW_len g.n g.r (fun r hr => (goodS_size (h3 r hr).1).2)
  have hge := endL_ge g.n (2 + 5 * g.r.length)
  obtain ⟨i1, i2⟩ := ins_nil h ht
  subst hn
  have h := imageR_c w q c g.r.length (BitVec.ofNat 64 (g.r.length + endL g.n (2 + 5 * g.r.length) * 65536)) (encW g.n g.r) hr (by omega) (by omega) h2 (by omega) rfl rfl (field_hi _ (by omega)) (by rw [hlen]; exact field_mid _ _ (by omega) (by omega)) (field_low _ _ (by omega) (by omega)) (fun y hy => by rw [i1] at hy; cases hy) (by rw [i2]; exact Nat.zero_le _)
  rw [i2] at h
  exact h
end Go.Proofs.Ytaminpfgkegibaa
/- How an argument that is a row of structs is opened. No conditions. -/
namespace Go.Proofs.Ytaminpfgkegibaa
set_option linter.unusedVariables false
set_option linter.unusedSimpArgs false
open Go.ChangeShapes Go.WideShapes Go.ChangeAt Go.RowKit
section
variable {H : Type} {enc : TypeId × Value → H} {P : Program} {w : World} {base : Nat} {spare : Nat → Bool} {held : Bool} {r : Reach} {b0 : Nat}
theorem cell_int {k : IntKind} {n : Nat} {t : TypeId} {u : Value} {y : DataW H × List MemPlace} (ht : P.underlying t = some (.int k)) (h : DataW.trod enc P w base spare held n t [u] = some y) : ∃ a, u = .int k a ∧ (Lit.int k a).wf = true := by
  obtain ⟨a, h, _, hw⟩ := DataW.trod_int ht h
  exact ⟨a, by simpa using h, hw⟩
/-- A cell that is a slice of numbers. -/
theorem cell_nums {α : Type} (f : α → Value) {k : IntKind} {n : Nat} {t e : TypeId} {u : Value} {y : DataW H × List MemPlace} (hf : ∀ z : Int, (Lit.int k z).wf = true → ∃ a, f a = .int k z) (ht : P.underlying t = some (.slice e)) (he : P.underlying e = some (.int k)) (hc : P.cellsOf e = 1) (h : DataW.trod enc P w base spare held n t [u] = some y) :
    ∃ (A : Option Addr) (bs : List α) (c : Nat), u = .slice A bs.length c ∧ bs.length ≤ c ∧ c ≤ maxLen ∧ Rd f w w.heap.size A bs := by
  rcases open_ints ht he hc h with ⟨hcs, _⟩ | ⟨x, l, c, zs, hcs, _, hl, hm, hz, _, hcell, hwz⟩
  · have hu : u = .slice none 0 0 := by simpa using hcs
    exact ⟨none, [], 0, hu, Nat.le_refl _, by simp [maxLen], Rd.nil⟩
  · have hu : u = .slice (some x) l c := by simpa using hcs
    have hlen : l ≤ zs.length := by rw [hz]; split <;> omega
    have : ∃ bs : List α, bs.length = l ∧ ∀ j (h : j < bs.length), f bs[j] = .int k (zs.getD j 0) := by
      have hk : ∀ m, m ≤ l → ∃ bs : List α, bs.length = m ∧ ∀ j (h : j < bs.length), f bs[j] = .int k (zs.getD j 0) := by
        intro m
        induction m with
        | zero => intro _; exact ⟨[], rfl, fun j h => absurd h (by simp)⟩
        | succ m ih =>
          intro hm
          obtain ⟨bs, hb, hp⟩ := ih (by omega)
          obtain ⟨a, ha⟩ := hf (zs.getD m 0) (hwz _ (by rw [List.getD_eq_getElem?_getD, List.getElem?_eq_getElem (by omega)]; exact List.getElem_mem _))
          refine ⟨bs ++ [a], by simp [hb], fun j hj => ?_⟩
          rw [List.getElem_append]
          split
          · exact hp j _
          · have : j = m := by simp at hj; omega
            subst this
            simpa using ha
      exact hk l (Nat.le_refl _)
    obtain ⟨bs, hb, hp⟩ := this
    refine ⟨some x, bs, c, by rw [hb]; exact hu, by omega, hm, fun j hj => ?_⟩
    have hc1 := hcell j (by omega)
    have hbk := cell_lt hc1
    rw [add_block] at hbk
    exact ⟨x, rfl, hbk, by rw [hc1, hp j hj]⟩
end
theorem choose_lst {α : Type} {p : Nat → α → Prop} : ∀ n : Nat, (∀ r, r < n → ∃ x, p r x) → ∃ l : List α, l.length = n ∧ ∀ r (h : r < l.length), p r l[r]
  | 0, _ => ⟨[], rfl, fun r h => absurd h (by simp)⟩
  | n + 1, h => by
    obtain ⟨l, hl, hp⟩ := choose_lst n fun r hr => h r (by omega)
    obtain ⟨x, hx⟩ := h n (by omega)
    refine ⟨l ++ [x], by simp [hl], fun r hr => ?_⟩
    rw [List.getElem_append]
    split
    · exact hp r _
    · have : r = n := by simp at hr; omega
      subst this
      simpa using hx
theorem num8 : ∀ z : Int, (Lit.int .u8 z).wf = true → ∃ a : BitVec 8, b8 a = .int .u8 z := fun z h => ⟨_, by unfold b8; rw [← wfu8 h]⟩
set_option maxRecDepth 100000
theorem add_far (a : Addr) (m j : Nat) : a.add (m + (j + 1)) = ⟨(a.add m).block, (a.add m).off + (j + 1), none⟩ := by
  rw [← add_add']
  rfl
/-- One of CodeBack's items. -/
structure Itm where
  op : Int
  u : BitVec 64
  i : BitVec 64
  ba : Option Addr
  bb : List (BitVec 8)
  bc : Nat
  wa : Option Addr
  ww : List (BitVec 64)
  wc : Nat
structure ItmAt (W : World) (B : Nat) (ad : Addr) (k : Nat) (x : Itm) : Prop where
  blk : ad.block < B
  op : W.cell? (ad.add (k * 5)) = some (.int .i64 x.op)
  u : W.cell? ⟨(ad.add (k * 5)).block, (ad.add (k * 5)).off + 1, none⟩ = some (.int .u64 (U64 x.u))
  i : W.cell? ⟨(ad.add (k * 5)).block, (ad.add (k * 5)).off + 2, none⟩ = some (.int .i64 (I64 x.i))
  b : W.cell? ⟨(ad.add (k * 5)).block, (ad.add (k * 5)).off + 3, none⟩ = some (.slice x.ba x.bb.length x.bc)
  w : W.cell? ⟨(ad.add (k * 5)).block, (ad.add (k * 5)).off + 4, none⟩ = some (.slice x.wa x.ww.length x.wc)
  bbc : x.bb.length ≤ x.bc
  wwc : x.ww.length ≤ x.wc
  br : Rd b8 W B x.ba x.bb
  wr : Rd (fun a => Value.int .u64 (U64 a)) W B x.wa x.ww
def Its (W : World) (B : Nat) (A : Option Addr) (l : List Itm) : Prop := ∀ k (h : k < l.length), ∃ ad, A = some ad ∧ ItmAt W B ad k l[k]
/-- One of MemPlays' acts. -/
structure Ac where
  op : Int
  at_ : Int
  fr : Int
  n : Int
  u : BitVec 64
  ba : Option Addr
  bb : List (BitVec 8)
  bc : Nat
structure AcAt (W : World) (B : Nat) (ad : Addr) (k : Nat) (x : Ac) : Prop where
  blk : ad.block < B
  op : W.cell? (ad.add (k * 6)) = some (.int .i64 x.op)
  at_ : W.cell? ⟨(ad.add (k * 6)).block, (ad.add (k * 6)).off + 1, none⟩ = some (.int .i64 x.at_)
  fr : W.cell? ⟨(ad.add (k * 6)).block, (ad.add (k * 6)).off + 2, none⟩ = some (.int .i64 x.fr)
  n : W.cell? ⟨(ad.add (k * 6)).block, (ad.add (k * 6)).off + 3, none⟩ = some (.int .i64 x.n)
  u : W.cell? ⟨(ad.add (k * 6)).block, (ad.add (k * 6)).off + 4, none⟩ = some (.int .u64 (U64 x.u))
  b : W.cell? ⟨(ad.add (k * 6)).block, (ad.add (k * 6)).off + 5, none⟩ = some (.slice x.ba x.bb.length x.bc)
  w0 : (Lit.int .i64 x.op).wf = true
  w1 : (Lit.int .i64 x.at_).wf = true
  w2 : (Lit.int .i64 x.fr).wf = true
  w3 : (Lit.int .i64 x.n).wf = true
  bbc : x.bb.length ≤ x.bc
  bcm : x.bc ≤ maxLen
  br : Rd b8 W B x.ba x.bb
def Acs (W : World) (B : Nat) (A : Option Addr) (l : List Ac) : Prop := ∀ k (h : k < l.length), ∃ ad, A = some ad ∧ AcAt W B ad k l[k]
theorem Acs.below {W W' : World} {B : Nat} {A : Option Addr} {l : List Ac} (h : Acs W B A l) (hb : Below B W W') : Acs W' B A l := fun k hk => by
  obtain ⟨ad, e, m⟩ := h k hk
  have hbk : (ad.add (k * 6)).block < B := by rw [add_block]; exact m.blk
  have c : ∀ j, W'.cell? ⟨(ad.add (k * 6)).block, (ad.add (k * 6)).off + j, none⟩ = W.cell? ⟨(ad.add (k * 6)).block, (ad.add (k * 6)).off + j, none⟩ := fun j => hb.cell (p := ⟨(ad.add (k * 6)).block, (ad.add (k * 6)).off + j, none⟩) hbk
  exact ⟨ad, e, m.blk, (hb.cell hbk).trans m.op, (c _).trans m.at_, (c _).trans m.fr, (c _).trans m.n, (c _).trans m.u, (c _).trans m.b, m.w0, m.w1, m.w2, m.w3, m.bbc, m.bcm, m.br.below hb⟩
end Go.Proofs.Ytaminpfgkegibaa
/- How an argument that is a graph is opened. No conditions. -/
namespace Go.Proofs.Ytaminpfgkegibaa
set_option linter.unusedVariables false
set_option linter.unusedSimpArgs false
open Go.ChangeShapes Go.WideShapes Go.ChangeAt Go.RowKit
set_option maxRecDepth 100000
section
variable {H : Type} {enc : TypeId × Value → H} {P : Program} {w : World} {base : Nat} {spare : Nat → Bool} {held : Bool}
/-- A cell that is a slice of structs of one-cell fields. -/
theorem cell_rows {t e : TypeId} {fs : Array Field} {K n0 : Nat} {u : Value} {y : DataW H × List MemPlace} (ht : P.underlying t = some (.slice e)) (he : P.underlying e = some (.struct fs)) (hone : Go.Deep.oneCellFields P fs = true) (hC : P.cellsOf e = K) (hK : fs.size = K)
    (hf : DataW.trod enc P w base spare held n0 t [u] = some y) :
    ∃ (A : Option Addr) (n c : Nat), u = .slice A n c ∧ n ≤ c ∧ c ≤ maxLen ∧ ∀ i, i < n → ∃ ad m, A = some ad ∧ ∀ j f, fs[j]? = some f → ∃ u y, w.cell? (ad.add (i * K + j)) = some u ∧ DataW.trod enc P w base spare held m f.type [u] = some y := by
  rcases Go.Deep.open_slice ht hf with ⟨hcs, _⟩ | ⟨a, len', cap', m, n', D, Pl, hcs, hb, hl, hm, hmm, hx, hrow⟩
  · have hu : u = .slice none 0 0 := by simpa using hcs
    exact ⟨none, 0, 0, hu, Nat.le_refl _, by simp [maxLen], fun i hi => absurd hi (by omega)⟩
  · have hu : u = .slice (some a) len' cap' := by simpa using hcs
    refine ⟨some a, len', cap', hu, hl, hm, fun i hi => ?_⟩
    obtain ⟨cs', h1, h2⟩ := hrow i (by rw [hmm]; split <;> omega)
    obtain ⟨_, hlen, hcell⟩ := World.cells?_some h1
    obtain ⟨xs, n2, _, _, hl2, hlen2, hfs⟩ := DataW.trod_struct he h2
    refine ⟨a, n2, rfl, fun j f hj => ?_⟩
    obtain ⟨ho, h1c⟩ := Go.Deep.hone_of hone j f hj
    have hjk : j < fs.size := (Array.getElem?_eq_some_iff.1 hj).1
    have hjl : j < cs'.length := by omega
    have hfj := hfs j f hj
    have e1 : (cs'.drop f.offset).take (P.cellsOf f.type) = [cs'[j]] := by
      rw [ho, h1c, List.drop_eq_getElem_cons hjl]
      rfl
    rw [e1, List.getElem?_eq_getElem (by omega)] at hfj
    refine ⟨cs'[j], _, ?_, hfj⟩
    have := hcell j (by omega)
    rw [List.getElem?_eq_getElem hjl, add_add', hC] at this
    exact this
theorem cell_str {n : Nat} {t : TypeId} {u : Value} {y : DataW H × List MemPlace} (ht : P.underlying t = some .string) (h : DataW.trod enc P w base spare held n t [u] = some y) : ∃ s : ByteArray, u = .string s ∧ s.size ≤ maxLen := by
  obtain ⟨s, h, _, hw⟩ := DataW.trod_string ht h
  exact ⟨s, by simpa using h, hw⟩
end
theorem numI : ∀ z : Int, (Lit.int .i64 z).wf = true → ∃ a : Int, iV a = .int .i64 z := fun z _ => ⟨z, rfl⟩
/-- A graph that came in. -/
structure GvOk (W : World) (g : Gv) : Prop where
  at_ : g.At W W.heap.size
  cn : g.c ≤ maxLen
  cr : g.c2 ≤ maxLen
  nd : ∀ x ∈ g.n, x.c ≤ maxLen ∧ x.d ≤ maxLen
  st : ∀ r ∈ g.r, r.s.size ≤ maxLen ∧ (Lit.int .i64 r.t).wf = true
theorem GvOk.up {W W' : World} {g : Gv} (h : GvOk W g) (hb : Below W.heap.size W W') : GvOk W' g := ⟨h.at_.up hb, h.cn, h.cr, h.nd, h.st⟩
section
variable {H : Type} {enc : TypeId × Value → H} {W : World} {base : Nat} {sp : Nat → Bool} {hd : Bool}
theorem cell_nodes {n0 : Nat} {u : Value} {y : DataW H × List MemPlace} (h : DataW.trod enc Try.prog W base sp hd n0 26 [u] = some y) : ∃ (A : Option Addr) (xs : List Nv) (c : Nat), u = .slice A xs.length c ∧ xs.length ≤ c ∧ c ≤ maxLen ∧ NRow W W.heap.size A xs ∧ ∀ x ∈ xs, x.c ≤ maxLen ∧ x.d ≤ maxLen := by
  have he := Try.underlying97
  obtain ⟨A, n, c, rfl, hn, hm, hrow⟩ := cell_rows (K := 2) Try.underlying26 he (by kernel_rfl) (by kernel_rfl) rfl h
  obtain ⟨l, hl, hp⟩ := choose_lst (α := Nv) (p := fun i x => ∃ ad, A = some ad ∧ ad.block < W.heap.size ∧ W.cell? (ad.add (i * 2)) = some x.vp ∧ W.cell? ⟨(ad.add (i * 2)).block, (ad.add (i * 2)).off + 1, none⟩ = some x.vd ∧ x.At W W.heap.size ∧ x.c ≤ maxLen ∧ x.d ≤ maxLen) n (fun k hk => by
    obtain ⟨ad, m, e, hf⟩ := hrow k hk
    obtain ⟨u0, y0, c0, t0⟩ := hf 0 _ rfl
    obtain ⟨u1, y1, c1, t1⟩ := hf 1 _ rfl
    obtain ⟨A0, b0, n0, rfl, h0, hm0, r0⟩ := cell_nums iV (k := .i64) (e := 3) numI (by kernel_rfl) (by kernel_rfl) (by kernel_rfl) t0
    obtain ⟨A1, b1, n1, rfl, h1, hm1, r1⟩ := cell_nums b8 (k := .u8) (e := 5) num8 (by kernel_rfl) (by kernel_rfl) (by kernel_rfl) t1
    have hb := cell_lt c0
    rw [add_block] at hb
    exact ⟨⟨A0, n0, A1, n1, b0, b1⟩, ad, e, hb, c0, (congrArg W.cell? (add_far ad (k * 2) 0)).symm.trans c1, ⟨r0, r1, h0, h1⟩, hm0, hm1⟩)
  subst hl
  refine ⟨A, l, c, rfl, hn, hm, fun i hi => ?_, fun x hx => ?_⟩
  · obtain ⟨ad, h1, h2, h3, h4, h5, _⟩ := hp i hi
    exact ⟨ad, h1, h2, h3, h4, h5⟩
  · obtain ⟨i, hi, rfl⟩ := List.mem_iff_getElem.1 hx
    obtain ⟨ad, h1, h2, h3, h4, h5, h6⟩ := hp i hi
    exact h6
theorem cell_roots {n0 : Nat} {u : Value} {y : DataW H × List MemPlace} (h : DataW.trod enc Try.prog W base sp hd n0 27 [u] = some y) : ∃ (A : Option Addr) (xs : List Rv) (c : Nat), u = .slice A xs.length c ∧ xs.length ≤ c ∧ c ≤ maxLen ∧ RoRow W W.heap.size A xs ∧ ∀ x ∈ xs, x.s.size ≤ maxLen ∧ (Lit.int .i64 x.t).wf = true := by
  have he := Try.underlying99
  obtain ⟨A, n, c, rfl, hn, hm, hrow⟩ := cell_rows (K := 2) Try.underlying27 he (by kernel_rfl) (by kernel_rfl) rfl h
  obtain ⟨l, hl, hp⟩ := choose_lst (α := Rv) (p := fun i x => ∃ ad, A = some ad ∧ ad.block < W.heap.size ∧ W.cell? (ad.add (i * 2)) = some (.string x.s) ∧ W.cell? ⟨(ad.add (i * 2)).block, (ad.add (i * 2)).off + 1, none⟩ = some (.int .i64 x.t) ∧ x.s.size ≤ maxLen ∧ (Lit.int .i64 x.t).wf = true) n (fun k hk => by
    obtain ⟨ad, m, e, hf⟩ := hrow k hk
    obtain ⟨u0, y0, c0, t0⟩ := hf 0 _ rfl
    obtain ⟨u1, y1, c1, t1⟩ := hf 1 _ rfl
    obtain ⟨s, rfl, hs⟩ := cell_str (by kernel_rfl) t0
    obtain ⟨z, rfl, hz⟩ := cell_int (k := .i64) (by kernel_rfl) t1
    have hb := cell_lt c0
    rw [add_block] at hb
    exact ⟨⟨s, z⟩, ad, e, hb, c0, (congrArg W.cell? (add_far ad (k * 2) 0)).symm.trans c1, hs, hz⟩)
  subst hl
  refine ⟨A, l, c, rfl, hn, hm, fun i hi => ?_, fun x hx => ?_⟩
  · obtain ⟨ad, h1, h2, h3, h4, _⟩ := hp i hi
    exact ⟨ad, h1, h2, h3, h4⟩
  · obtain ⟨i, hi, rfl⟩ := List.mem_iff_getElem.1 hx
    obtain ⟨ad, h1, h2, h3, h4, h6⟩ := hp i hi
    exact h6
theorem open_str_Graph {r : Reach} {b0 : Nat} {v : Value} {d : DataW H} {p : List MemPlace}
    (hv : Value.okWide Try.prog W r b0 29 v) (h : DataW.Trod enc Try.prog W base sp hd 29 v d p) : ∃ g : Gv, v = g.v ∧ GvOk W g := by
  obtain ⟨cs, rfl, hsz⟩ := okWide_struct Try.underlying29 hv
  obtain ⟨l⟩ := cs
  obtain ⟨fuel, hf⟩ := h
  have k2 : Try.prog.cellsOf 29 = 2 := by kernel_rfl
  have kN : Try.prog.cellsOf 26 = 1 := by kernel_rfl
  have kR : Try.prog.cellsOf 27 = 1 := by kernel_rfl
  obtain ⟨xs, m, _, hx, hl, hlen, hg⟩ := DataW.trod_struct Try.underlying29 hf
  have hl2 : l.length = 2 := by
    have := hl.trans k2
    simpa [Value.cells] using this
  match l, hl2 with
  | [c0, c1], _ =>
    match xs, hlen with
    | [y0, y1], _ =>
      have g0 := hg 0 _ rfl
      have g1 := hg 1 _ rfl
      simp only [Value.cells, kN, kR, List.drop_zero, List.drop_succ_cons, List.take_succ_cons, List.take_zero, List.getElem?_cons_zero, List.getElem?_cons_succ] at g0 g1
      obtain ⟨A0, x0, n0, rfl, h0, hm0, r0, w0⟩ := cell_nodes g0
      obtain ⟨A1, x1, n1, rfl, h1, hm1, r1, w1⟩ := cell_roots g1
      exact ⟨⟨A0, n0, A1, n1, x0, x1⟩, rfl, ⟨⟨r0, r1, h0, h1⟩, hm0, hm1, w0, w1⟩⟩
end
end Go.Proofs.Ytaminpfgkegibaa
