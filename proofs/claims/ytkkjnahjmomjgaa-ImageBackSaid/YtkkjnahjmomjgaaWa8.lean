/- Texts joined: ImE RegG RegH ImF ImG GrE ImH DcG. -/
import Derived.Test.YtkkjnahjmomjgaaWa7
import Derived.Test.YtkkjnahjmomjgaaRegL
import Derived.Test.YtkkjnahjmomjgaaHdK
import Derived.Laws.Rows
import Derived.Laws.Tables
import Derived.Test.YtkkjnahjmomjgaaMmC
import Derived.Test.YtkkjnahjmomjgaaGrC
import Derived.Test.YtkkjnahjmomjgaaGrD
import Derived.Test.YtkkjnahjmomjgaaRegT
import Derived.Test.YtkkjnahjmomjgaaMmA
/- image.putRoot. Conditions: a name that may be, a node that is there. -/
namespace Go.Proofs.Ytkkjnahjmomjgaa
set_option linter.unusedVariables false
set_option linter.unusedSimpArgs false
open Go.RowKit Go.Maps
set_option maxHeartbeats 4000000
set_option maxRecDepth 100000
theorem putRoot_c (w : World) (B s g S b t e a bb qb cq : Nat) (v : Value) (ws : List (BitVec 64)) (ns : List Nv) (h : PuAt w B s g v ws b t e S (.slice (some ⟨qb, 0, none⟩) (ns.length + 1) cq) (plI ns bb)) (r : Rv) (hgd : goodS r.s = true) (ho : okP ns.length r.t = true) (hend : endL ns bb ≤ 8192) (ha : a + 4 < ws.length) (h8 : ws.length ≤ 8192) :
    Calls Try.prog 29 #[.pointer (some ⟨g, 0, none⟩), .int .i64 (a : Int), r.v, .slice (some ⟨qb, 0, none⟩) (ns.length + 1) cq] w (fun r' w' => r' = .returned (.int .i64 0) ∧ PuAt w' B s g v ((putK ws (8 * a) (nameW r.s) (nameW r.s).length).set (a + 4) (pointW (placeL ns bb) r.t)) b t e S (.slice (some ⟨qb, 0, none⟩) (ns.length + 1) cq) (plI ns bb) ∧ Below B w w' ∧ Two w w' s v.ownBlock) := by
  obtain ⟨st, to⟩ := r
  simp only at hgd ho ⊢
  unfold Rv.v
  simp only
  obtain ⟨k, hk⟩ : ∃ k, k = nameW st := ⟨_, rfl⟩
  have hkw : nW k := by rw [hk]; exact nameW_len (goodS_size hgd).2
  have HFX := Lib.hid (fun W => show Calls Try.prog 67 #[.string st] W (RetP (.tuple #[nV k, .int .i64 0]) W) from by
    have h1 := fix_ok (bitsOf st) W (good_bits hgd)
    rw [strB_bits, ← nameW_pad, ← hk] at h1
    exact h1)
  rw [← hk]
  obtain ⟨arr, harr⟩ : ∃ arr, arr = nC k := ⟨_, rfl⟩
  unfold nV at HFX
  rw [← harr] at HFX
  have HA := Lib.hid harr
  have HS32 := Lib.hid (show arr.size = 32 from by rw [harr]; exact nC_size hkw)
  have HONE := Lib.hid (show arr.all (·.oneCell') = true from by rw [harr]; exact nC_one k)
  obtain ⟨za, hza⟩ : ∃ za, za = nC zN := ⟨_, rfl⟩
  have hzero := zeroN
  rw [← hza] at hzero
  have HZS := Lib.hid (show za.size = 32 from by rw [hza]; exact nC_size zN_w)
  obtain ⟨⟨p0, p1⟩, p2, y, p3, p4, p5⟩ := point_val ns bb to ho hend
  obtain ⟨x, hx⟩ : ∃ x, x = pointW (placeL ns bb) to := ⟨_, rfl⟩
  rw [← hx] at p5 ⊢
  obtain ⟨pn, hpn⟩ : ∃ pn, pn = to.toNat := ⟨_, rfl⟩
  have pI : to = (pn : Int) := by omega
  subst pI
  have hpc := h.row.cell p2
  rw [p3, ← hpn] at hpc
  unfold iV at hpc
  have HPc := Lib.hid hpc
  obtain ⟨NN, hNN⟩ : ∃ NN, NN = ns.length + 1 := ⟨_, rfl⟩
  have pN : (pn : Int) < (NN : Int) := by omega
  have pZ : (0 : Int) ≤ (pn : Int) := by omega
  have hqb : qb < w.heap.size ∧ S ≤ qb := ⟨h.row.ge.2, h.row.ge.1⟩
  rw [← hNN] at h ⊢
  obtain ⟨a8, ha8⟩ : ∃ a8, a8 = 8 * a := ⟨_, rfl⟩
  obtain ⟨a4, ha4⟩ : ∃ a4, a4 = a + 4 := ⟨_, rfl⟩
  rw [← ha8, ← ha4]
  have q1 : (a : Int) * 8 = (a8 : Int) := by omega
  have q2 : (a : Int) + 4 = (a4 : Int) := by omega
  have q3 : (a8 : Int) ≤ 65536 := by omega
  have q4 : (a4 : Int) ≤ 8192 := by omega
  have q5 : (y : Int) - 1 + 1 = (y : Int) := by omega
  have q6 : (y : Int) ≤ 8192 := by omega
  have q7 : (0 : Int) ≤ (a : Int) := by omega
  have hkl : k.length = 32 := hkw
  have HSB := Lib.hid (fun W (m : MemAt W B g v ws) (q : Nat) (hb : Bk W q 120 arr) (hq : some q ≠ v.ownBlock) => setBytes_in W B g v ws a8 (some ⟨q, 0, none⟩) 32 k (by omega) (by omega) m (nrd (harr ▸ hb) hb.lt) (fun _ x hx => by injection hx with hx; rw [← hx]; exact hq))
  have hpl : (putK ws a8 k k.length).length = ws.length := putK_len _ _ _ _
  have HSt := Lib.hid (fun W (m : MemAt W B g v (putK ws a8 k k.length)) => set_in W B g v (putK ws a8 k k.length) a4 x (by omega) (by omega) m)
  rw [p5] at HSt
  rw [hkl] at HSB
  have HL := Lib.hid (And.intro hpl (And.intro hkl hqb))
  have H0 := Lib.hid h
  have HVs := Lib.hid (fun i (hi : v.ownBlock = some i) => (h.sp.mem.row.lt i hi).2)
  clear h hgd ho hend ha h8 hk hkw harr hza p1 p2 p3 p4 p5 hx hpn hpc hNN hqb ha8 ha4 hkl hpl p0
  go_enter Try.func29, Try.ntmps29
  go_wp2_with fail
  obtain ⟨Rb, hRb⟩ : ∃ R, R = w.heap.size := ⟨_, rfl⟩
  obtain ⟨w1, hw1⟩ : ∃ W, W = w.alloc (.cells #[.string st, .int .i64 (pn : Int)] 56) := ⟨_, rfl⟩
  have hbk : Bk w1 Rb 56 #[.string st, .int .i64 (pn : Int)] := by rw [hw1, hRb]; exact Bk.new w _ _
  have b1 : Below w.heap.size w w1 := by rw [hw1]; exact Gw.alloc w _
  rw [← hw1, ← hRb]
  have HRb := Lib.hid hRb
  have H1 := Lib.hid (And.intro hbk b1)
  clear hw1 hRb hbk b1
  refine Calls.mono (HFX.out w1) ?_
  rintro r w2 ⟨rfl, b2⟩
  have H2 := Lib.hid (And.intro (H1.out.1.below b2 H1.out.1.lt) (H1.out.2.trans (b2.mono H1.out.2.size)))
  clear b2 H1
  have HQ2 := Lib.hid (Bk.new w2 120 za)
  have hl2 : w.heap.size ≤ w2.heap.size := H2.out.2.size
  have HB2 := Lib.hid (show Bk (w2.alloc (.cells za 120)) Rb 56 #[.string st, .int .i64 (pn : Int)] ∧ Below w.heap.size w (w2.alloc (.cells za 120)) ∧ Rb < w2.heap.size ∧ w.heap.size ≤ w2.heap.size from ⟨H2.out.1.alloc _, H2.out.2.trans ((Gw.alloc w2 _).mono hl2), H2.out.1.lt, hl2⟩)
  clear hl2 H2
  go_wp2_with (refine wp_storeN rfl _ _ rfl w2.heap.size arr rfl rfl 120 za HQ2.out HS32.out HZS.out HONE.out ?_; intro w3 k3 b3 o3; have H3 := Lib.hid (show Bk w3 w2.heap.size 120 arr ∧ Bk w3 Rb 56 #[.string st, .int .i64 (pn : Int)] ∧ Below w.heap.size w w3 ∧ some w2.heap.size ≠ v.ownBlock from ⟨k3, (o3 _ (by have := HB2.out.2.2.1; omega)).trans HB2.out.1, HB2.out.2.1.trans (b3 _ HB2.out.2.2.2), fun hh => by have := HVs.out _ hh.symm; have := HB2.out.2.2.2; omega⟩); clear k3 b3 o3)
  obtain ⟨Nb, hNb⟩ : ∃ q, q = w2.heap.size := ⟨_, rfl⟩
  rw [← hNb] at H3 ⊢
  have H4 := Lib.hid (H0.out.below H3.out.2.2.1)
  clear hNb HQ2 HB2
  refine Calls.mono (HSB.out w3 H4.out.sp.mem Nb H3.out.1 H3.out.2.2.2) ?_
  rintro r w5 ⟨rfl, m5, g5⟩
  rw [← HL.out.2.1] at m5
  have H5 := Lib.hid (show PuAt w5 B s g v (putK ws a8 k k.length) b t e S (.slice (some ⟨qb, 0, none⟩) NN cq) (plI ns bb) ∧ Below B w w5 ∧ Bk w5 Rb 56 #[.string st, .int .i64 (pn : Int)] ∧ w5.cell? ⟨qb, pn, none⟩ = some (.int .i64 ((y : Int) - 1)) ∧ qb < w5.heap.size ∧ Two w w5 s v.ownBlock from by
    have hsp := H4.out.sp.memTo m5 g5 HL.out.1
    have b35 : Below B w3 w5 := H4.out.sp.mem.own g5
    have hb0 : Below B w w3 := H3.out.2.2.1.mono H0.out.sp.mem.le
    refine ⟨H4.out.two hsp (Two.grown g5), hb0.trans b35, (Kept.grown g5).bk H3.out.2.1 (fun hh => ?_), ?_, ?_, (Two.below H3.out.2.2.1).trans (Two.grown g5)⟩
    · have := HVs.out _ hh; have := HRb.out; omega
    · rw [(Kept.grown g5).cell (p := ⟨qb, pn, none⟩) (Nat.lt_of_lt_of_le HL.out.2.2.1 H3.out.2.2.1.size) (fun hh => ?_), H3.out.2.2.1.cell (p := ⟨qb, pn, none⟩) HL.out.2.2.1]
      · exact HPc.out
      · have h9 : qb < S := H0.out.vs _ hh
        have := HL.out.2.2.2
        omega
    · exact Nat.lt_of_lt_of_le HL.out.2.2.1 (Nat.le_trans H3.out.2.2.1.size g5.size))
  clear m5 g5 H4 H3
  obtain ⟨g0, g1⟩ := H5.out.2.2.1.two
  have hRl := H5.out.2.2.1.lt
  have hpc := H5.out.2.2.2.1
  have hql := H5.out.2.2.2.2.1
  go_wp2_with fail
  refine Calls.mono (HSt.out w5 H5.out.1.sp.mem) ?_
  rintro r w6 ⟨rfl, m6, g6⟩
  have H6 := Lib.hid (show PuAt w6 B s g v ((putK ws a8 k k.length).set a4 x) b t e S (.slice (some ⟨qb, 0, none⟩) NN cq) (plI ns bb) ∧ Below B w w6 ∧ Two w w6 s v.ownBlock from
    ⟨H5.out.1.two (H5.out.1.sp.memTo m6 g6 List.length_set) (Two.grown g6), H5.out.2.1.trans (H5.out.1.sp.mem.own g6), H5.out.2.2.2.2.2.trans (Two.grown g6)⟩)
  clear m6 g6 g0 g1 hRl hpc hql H5
  go_wp2_with fail
  go_ret
  exact ⟨rfl, H6.out⟩
end Go.Proofs.Ytkkjnahjmomjgaa
/- A region that draws its order, some of whose operations store into boxes that it makes: by a fact for each operation. No conditions. -/
namespace Go.Proofs.Ytkkjnahjmomjgaa
set_option linter.unusedVariables false
set_option linter.unusedSimpArgs false
open Go.RowKit
section
variable {P : Program} {ops : Array Oper} {Q : Exit → Act → World → Prop} {G D : World → World → Prop} {F : Nat → Value → World → Prop} {a0 : Act} {w0 : World} {src : Nat → Nat}
/-- Each operation has a slot of its own, or none; it waits for elder ones alone; none defers. -/
def regGB (ops : Array Oper) (size : Nat) : Bool :=
  (List.range ops.size).all fun i => match ops[i]? with
    | none => false
    | some o =>
      (match o.dst with
       | none => true
       | some d => decide (d < size) && (List.range ops.size).all fun j => j == i || dstOf ops j != some d) &&
      (o.after.all fun e => !Region.binds .any e || decide (e.on < i)) &&
      (match o.op with | .defer _ => false | .select .. => false | _ => true)
def srcB (ops : Array Oper) (src : Nat → Nat) : Bool :=
  (List.range ops.size).all fun i => (src i == i && (dstOf ops i).isSome) || ((dstOf ops i).isNone && waitsB ops i (src i) && (dstOf ops (src i)).isSome)
/-- What operation i owes: its fact, of what it leaves, or of what another has left, and what it turns. -/
def OwesG (P : Program) (ops : Array Oper) (Q : Exit → Act → World → Prop) (G D : World → World → Prop) (F : Nat → Value → World → Prop) (src : Nat → Nat) (a0 : Act) (w0 : World) (i : Nat) : Prop :=
  ∀ (a : Act) (w : World), G w0 w → a.defers = a0.defers → a.tmps.size = a0.tmps.size →
    (∀ j, waitsB ops i j = true → src j = j → F j (valAt ops a j) w) →
    (∀ t, (∀ j, dstOf ops j = some t → waitsB ops j i = true) → a.tmps.getD t undef = a0.tmps.getD t undef) →
    wpOp P ops Q i (fun a' w' => ∃ v, a' = a.put (dstOf ops i) v ∧ D w w' ∧ F i (if src i = i then v else valAt ops a (src i)) w') a w
theorem regGB_at {size : Nat} (h : regGB ops size = true) {i : Nat} (hi : i < ops.size) : ∃ o, ops[i]? = some o ∧ (∀ d, o.dst = some d → d < size ∧ (∀ j, j < ops.size → j ≠ i → dstOf ops j ≠ some d)) ∧ (∀ e ∈ o.after, Region.binds .any e = true → e.on < i) := by
  unfold regGB at h
  rw [List.all_eq_true] at h
  have h1 := h i (List.mem_range.2 hi)
  cases ho : ops[i]? with
  | none => rw [ho] at h1; cases h1
  | some o =>
    rw [ho] at h1
    simp only [Bool.and_eq_true] at h1
    obtain ⟨⟨h1, h2⟩, _⟩ := h1
    refine ⟨o, rfl, fun d hd => ?_, fun e he hb => ?_⟩
    · rw [hd] at h1
      simp only [Bool.and_eq_true, decide_eq_true_eq, List.all_eq_true, List.mem_range, Bool.or_eq_true, beq_iff_eq, bne_iff_ne] at h1
      refine ⟨h1.1, fun j hj hne => ?_⟩
      rcases h1.2 j hj with h | h
      · exact absurd h hne
      · exact h
    · have := Array.all_eq_true_iff_forall_mem.1 h2 e he
      simpa [hb] using this
/-- What operation i owes, at the very state: its fact, of whatever it leaves. -/
def OwesD (P : Program) (ops : Array Oper) (Q : Exit → Act → World → Prop) (G D : World → World → Prop) (F : Nat → Value → World → Prop) (a0 : Act) (w0 : World) (i : Nat) : Prop :=
  ∀ (a : Act) (w : World), G w0 w → a.defers = a0.defers → a.tmps.size = a0.tmps.size →
    (∀ j, waitsB ops i j = true → F j (valAt ops a j) w) →
    (∀ t, (∀ j, dstOf ops j = some t → waitsB ops j i = true) → a.tmps.getD t undef = a0.tmps.getD t undef) →
    wpOp P ops Q i (fun a' w' => ∃ v, a' = a.put (dstOf ops i) v ∧ D w w' ∧ F i v w') a w

/-- An operation that runs whatever comes: by the operations js that it waits for. -/
theorem owes_ofD {i : Nat} {o : Oper} (js : List Nat) (ho : ops[i]? = some o) (hg : o.guard = none) (hsee : seesB ops i js = true)
    (hnd : match o.op with | .defer _ => False | .select .. => False | _ => True)
    (h : ∀ (vals : Nat → Value) (w : World), G w0 w → (∀ j ∈ js, F j (vals j) w) → ∀ K : Act → World → Prop, (∀ v w', D w w' → F i v w' → K ((putL ops vals js a0).put o.dst v) w') →
      Oper.wp P o (putL ops vals js a0) w K NoQ) : OwesD P ops Q G D F a0 w0 i := by
  intro a w hG hd hs hF hR
  unfold wpOp
  rw [ho]
  simp only [Region.wanted, hg, if_true]
  left
  have hsee' : (js.all (fun j => waitsB ops i j) = true) ∧ ∀ t ∈ (o.op.operands.toList.filterMap fun | .tmp t => some t | _ => none), js.any (fun j => dstOf ops j == some t) = true ∨ (List.range ops.size).all (fun j => dstOf ops j != some t || waitsB ops j i) = true := by
    unfold seesB at hsee
    rw [ho] at hsee
    simp only [Bool.and_eq_true, List.all_eq_true, Bool.or_eq_true] at hsee
    refine ⟨by rw [List.all_eq_true]; exact hsee.1, fun t ht => ?_⟩
    rcases hsee.2 t ht with h | h
    · exact .inl h
    · right; rw [List.all_eq_true]; simpa using h
  have hjs : ∀ j ∈ js, waitsB ops i j = true := List.all_eq_true.1 hsee'.1
  have ht : ∀ t ∈ (o.op.operands.toList.filterMap fun | .tmp t => some t | _ => none), a0.tmps.getD t undef = a.tmps.getD t undef ∨ ∃ j ∈ js, dstOf ops j = some t := by
    intro t ht
    rcases hsee'.2 t ht with h | h
    · right
      rw [List.any_eq_true] at h
      obtain ⟨j, hj, e⟩ := h
      exact ⟨j, hj, by simpa using e⟩
    · left
      refine (hR t fun j hj => ?_).symm
      rw [List.all_eq_true] at h
      have hlt : j < ops.size := by
        rcases Nat.lt_or_ge j ops.size with hl | hl
        · exact hl
        · unfold dstOf at hj; rw [Array.getElem?_eq_none hl] at hj; cases hj
      have := h j (List.mem_range.2 hlt)
      simpa [hj] using this
  have he : execOp (putL ops (valAt ops a) js a0).eval o = execOp a.eval o := by
    refine execOp_congr o (fun cs b e => by rw [e] at hnd; exact hnd) fun x hx => ?_
    cases x with
    | tmp t =>
      show (putL ops (valAt ops a) js a0).tmps.getD t undef = a.tmps.getD t undef
      exact putL_at a t js a0 hs.symm (ht t (List.mem_filterMap.2 ⟨.tmp t, by simpa using hx, rfl⟩))
    | _ => rfl
  have hsz : a.tmps.size = (putL ops (valAt ops a) js a0).tmps.size := by rw [putL_size, hs]
  have hdo : dstOf ops i = o.dst := by unfold dstOf; rw [ho]; rfl
  rw [hdo]
  refine wp_same (K1 := fun A' w' => ∃ v, A' = (putL ops (valAt ops a) js a0).put o.dst v ∧ D w w' ∧ F i v w') he hsz hnd ?_ ?_
  · exact h (valAt ops a) w hG (fun j hj => hF j (hjs j hj)) _ (fun v w' g f => ⟨v, rfl, v, rfl, g, f⟩)
  · rintro v w' ⟨v', e, g, f⟩
    exact ⟨v', put_eq e hsz, g, f⟩

theorem owes_vD {i : Nat} (op : Op) (type : TypeId) (js : List Nat) (ho : (ops[i]?).map (fun o => (o.op, o.type)) = some (op, type)) (hg : (ops[i]?).bind (·.guard) = none) (hsee : seesB ops i js = true)
    (hnd : callsB op = true)
    (h : ∀ (vals : Nat → Value) (w : World) (ρ : Operand → Value), G w0 w → (∀ j ∈ js, F j (vals j) w) → (∀ t, ρ (.tmp t) = (putL ops vals js a0).tmps.getD t undef) → (∀ c, ρ (.const c) = c) → (∀ f, ρ (.func f) = .func (.func f) #[] #[]) →
      OpV P op type ρ w fun v w' => D w w' ∧ F i v w') : OwesD P ops Q G D F a0 w0 i := by
  obtain ⟨o, h1, h2, h3⟩ := isOp_mk ho
  subst h2 h3
  rw [h1] at hg
  exact owes_ofD js h1 hg hsee (by revert hnd; cases o.op <;> simp [callsB]) fun vals w hG hF K hK => opv_wp (h vals w (putL ops vals js a0).eval hG hF (fun t => rfl) (fun c => rfl) (fun f => rfl)) fun v w' hr => hK v w' hr.1 hr.2
/-- A copy of a slot that is as it was. -/
theorem owes_mvD (hD : ∀ w, D w w) {i : Nat} (t : Tmp) {c : Value} (ho : ((ops[i]?).map fun o => copies t o.op) = some true) (hg : (ops[i]?).bind (·.guard) = none) (hsee : seesB ops i [] = true) (hv : a0.tmps.getD t undef = c) (hF : ∀ w, F i c w) :
    OwesD P ops Q G D F a0 w0 i := by
  cases hi : ops[i]? with
  | none => rw [hi] at ho; cases ho
  | some o =>
    rw [hi] at ho
    simp only [Option.map_some, Option.some.injEq] at ho
    refine owes_vD o.op o.type [] (by rw [hi]; rfl) hg hsee (by revert ho; cases o.op <;> simp [copies, callsB]) fun vals w ρ hG hF' hρ hc hf => ?_
    exact opv_val (copies_run ho) ⟨hD _, by rw [hρ t]; show F i (a0.tmps.getD t undef) w; rw [hv]; exact hF w⟩
/-- A copy of what operation j leaves. -/
theorem owes_mvjD (hD : ∀ w, D w w) {i : Nat} (j : Nat) (t : Tmp) (ho : ((ops[i]?).map fun o => copies t o.op) = some true) (hg : (ops[i]?).bind (·.guard) = none) (hsee : seesB ops i [j] = true) (hd : dstOf ops j = some t) (hl : t < a0.tmps.size) (hF : ∀ v w, F j v w → F i v w) :
    OwesD P ops Q G D F a0 w0 i := by
  cases hi : ops[i]? with
  | none => rw [hi] at ho; cases ho
  | some o =>
    rw [hi] at ho
    simp only [Option.map_some, Option.some.injEq] at ho
    refine owes_vD o.op o.type [j] (by rw [hi]; rfl) hg hsee (by revert ho; cases o.op <;> simp [copies, callsB]) fun vals w ρ hG hF' hρ hc hf => ?_
    refine opv_val (copies_run ho) ⟨hD _, ?_⟩
    rw [hρ t]
    unfold putL putL
    rw [hd, put_same _ _ _ hl]
    exact hF _ _ (hF' j (.head _))

/-- An operation with a slot of its own. -/
theorem OwesG.mk {i : Nat} (hs0 : src i = i) (hsw : ∀ j, waitsB ops i j = true → src j = j) (h : OwesD P ops Q G D F a0 w0 i) : OwesG P ops Q G D F src a0 w0 i := by
  intro a w hG hd hs hF hR
  refine wpOp_mono ?_ (h a w hG hd hs (fun j hj => hF j hj (hsw j hj)) hR)
  rintro a' w' ⟨v, e, hg, hf⟩
  exact ⟨v, e, hg, by rw [if_pos hs0]; exact hf⟩
/-- An operation without a slot, whose fact is of what another has left. -/
theorem OwesG.store {i : Nat} {o : Oper} (js : List Nat) (ho : ops[i]? = some o) (hg : o.guard = none) (hdn : o.dst = none) (hs0 : src i ≠ i) (hmem : src i ∈ js) (hjs : ∀ j ∈ js, src j = j) (hsee : seesB ops i js = true)
    (hnd : match o.op with | .defer _ => False | .select .. => False | _ => True)
    (h : ∀ (vals : Nat → Value) (w : World), G w0 w → (∀ j ∈ js, F j (vals j) w) → ∀ K : Act → World → Prop, (∀ v w', D w w' → F i (vals (src i)) w' → K ((putL ops vals js a0).put o.dst v) w') →
      Oper.wp P o (putL ops vals js a0) w K NoQ) : OwesG P ops Q G D F src a0 w0 i := by
  intro a w hG hd hs hF hR
  unfold wpOp
  rw [ho]
  simp only [Region.wanted, hg, if_true]
  left
  have hsee' : (js.all (fun j => waitsB ops i j) = true) ∧ ∀ t ∈ (o.op.operands.toList.filterMap fun | .tmp t => some t | _ => none), js.any (fun j => dstOf ops j == some t) = true ∨ (List.range ops.size).all (fun j => dstOf ops j != some t || waitsB ops j i) = true := by
    unfold seesB at hsee
    rw [ho] at hsee
    simp only [Bool.and_eq_true, List.all_eq_true, Bool.or_eq_true] at hsee
    refine ⟨by rw [List.all_eq_true]; exact hsee.1, fun t ht => ?_⟩
    rcases hsee.2 t ht with h | h
    · exact .inl h
    · right; rw [List.all_eq_true]; simpa using h
  have hjs2 : ∀ j ∈ js, waitsB ops i j = true := List.all_eq_true.1 hsee'.1
  have ht : ∀ t ∈ (o.op.operands.toList.filterMap fun | .tmp t => some t | _ => none), a0.tmps.getD t undef = a.tmps.getD t undef ∨ ∃ j ∈ js, dstOf ops j = some t := by
    intro t ht
    rcases hsee'.2 t ht with h | h
    · right
      rw [List.any_eq_true] at h
      obtain ⟨j, hj, e⟩ := h
      exact ⟨j, hj, by simpa using e⟩
    · left
      refine (hR t fun j hj => ?_).symm
      rw [List.all_eq_true] at h
      have hlt : j < ops.size := by
        rcases Nat.lt_or_ge j ops.size with hl | hl
        · exact hl
        · unfold dstOf at hj; rw [Array.getElem?_eq_none hl] at hj; cases hj
      have := h j (List.mem_range.2 hlt)
      simpa [hj] using this
  have he : execOp (putL ops (valAt ops a) js a0).eval o = execOp a.eval o := by
    refine execOp_congr o (fun cs b e => by rw [e] at hnd; exact hnd) fun x hx => ?_
    cases x with
    | tmp t =>
      show (putL ops (valAt ops a) js a0).tmps.getD t undef = a.tmps.getD t undef
      exact putL_at a t js a0 hs.symm (ht t (List.mem_filterMap.2 ⟨.tmp t, by simpa using hx, rfl⟩))
    | _ => rfl
  have hsz : a.tmps.size = (putL ops (valAt ops a) js a0).tmps.size := by rw [putL_size, hs]
  have hdo : dstOf ops i = o.dst := by unfold dstOf; rw [ho]; rfl
  rw [hdo]
  refine wp_same (K1 := fun A' w' => ∃ v, A' = (putL ops (valAt ops a) js a0).put o.dst v ∧ D w w' ∧ F i (valAt ops a (src i)) w') he hsz hnd ?_ ?_
  · exact h (valAt ops a) w hG (fun j hj => hF j (hjs2 j hj) (hjs j hj)) _ (fun v w' g f => ⟨v, rfl, v, rfl, g, f⟩)
  · rintro v w' ⟨v', e, g, f⟩
    exact ⟨v', put_eq e hsz, g, by rw [if_neg hs0]; exact f⟩

theorem OwesG.weak {i : Nat} {Pr : World → Prop} (h : OwesG P ops Q G D F src a0 w0 i) : OwesG P ops Q (fun w w' => G w w' ∧ Pr w') D F src a0 w0 i := fun a w hG hd hs hF hR => h a w hG.1 hd hs hF hR
theorem region_factsG {id : Nat} {DD : Nat → World → World → Prop} (Pre : Nat → World → Prop) (hpre0 : ∀ i, i < ops.size → Pre i w0.drew) (hpres : ∀ i k, i < ops.size → k < ops.size → k ≠ i → ∀ a b, G w0 a → Pre k a → DD i a b → Pre k b) (hm : P.follows .mixedOrders = true) (hrefl : G w0 w0.drew) (htrans : ∀ i, i < ops.size → ∀ a b, G w0 a → DD i a b → G w0 b) (hmono : ∀ i j, i < ops.size → j < ops.size → i ≠ j → ∀ v a b, F j v a → DD i a b → F j v b)
    (hreg : regGB ops a0.tmps.size = true) (hsrc : srcB ops src = true) (howes : ∀ i, i < ops.size → OwesG P ops Q (fun w w' => G w w' ∧ Pre i w') (DD i) F src a0 w0 i)
    (fin : ∀ (vals : Nat → Value) (w : World), G w0 w → (∀ j, j < ops.size → F j (vals (src j)) w) → Q .normal (putL ops vals (List.range ops.size) a0) w) :
    (Code.region id ops true).wp P Q a0 w0 := by
  have main : ∀ (fuel : Nat) (listed : Array Bool) (a : Act) (w : World), listed.size = ops.size →
      ((List.range ops.size).filter fun j => !listed.getD j true).length ≤ fuel →
      G w0 w → (∀ j, j < ops.size → listed.getD j true = false → Pre j w) → a.defers = a0.defers → a.tmps.size = a0.tmps.size →
      (∀ j, j < ops.size → listed.getD j true = true → F j (valAt ops a (src j)) w) →
      (∀ t, (∀ j, j < ops.size → listed.getD j true = true → dstOf ops j ≠ some t) → a.tmps.getD t undef = a0.tmps.getD t undef) →
      (∀ j, j < ops.size → listed.getD j true = true → ∀ k, waitsB ops j k = true → listed.getD k false = true) →
      wpAny P .any ops Q fuel listed a w := by
    intro fuel
    -- where nothing may come up all has come up
    have allUp : ∀ (listed : Array Bool), listed.size = ops.size → Region.ready .any ops listed = [] → ∀ j, j < ops.size → listed.getD j true = true := by
      intro listed hsz hr j
      induction j using Nat.strongRecOn with
      | ind j ih =>
        intro hj
        cases hl : listed.getD j true with
        | true => rfl
        | false =>
          exfalso
          obtain ⟨o, ho, _, he⟩ := regGB_at hreg hj
          have : j ∈ Region.ready .any ops listed := mem_ready.2 ⟨hl, o, ho, fun e hem hb => by
            have hlt := he e hem hb
            have := ih e.on hlt (by omega)
            rw [Array.getD_eq_getD_getElem?] at this ⊢
            rw [Array.getElem?_eq_getElem (by omega)] at this ⊢
            exact this⟩
          rw [hr] at this
          cases this
    have done : ∀ (listed : Array Bool) (a : Act) (w : World), (∀ j, j < ops.size → listed.getD j true = true) → G w0 w → a.defers = a0.defers → a.tmps.size = a0.tmps.size →
        (∀ j, j < ops.size → listed.getD j true = true → F j (valAt ops a (src j)) w) →
        (∀ t, (∀ j, j < ops.size → listed.getD j true = true → dstOf ops j ≠ some t) → a.tmps.getD t undef = a0.tmps.getD t undef) → Q .normal a w := by
      intro listed a w hall hG hd hs hF hR
      have := fin (valAt ops a) w hG (fun j hj => hF j hj (hall j hj))
      rw [putL_whole a (List.range ops.size) a0 hs.symm hd.symm] at this
      · exact this
      · intro t
        by_cases e : ∃ j, j < ops.size ∧ dstOf ops j = some t
        · obtain ⟨j, hj, hjd⟩ := e
          exact .inr ⟨j, List.mem_range.2 hj, hjd⟩
        · left
          exact (hR t fun j hj _ he => e ⟨j, hj, he⟩).symm
    induction fuel with
    | zero =>
      intro listed a w hsz hcnt hG hPre hd hs hF hR hC
      have hall : ∀ j, j < ops.size → listed.getD j true = true := by
        intro j hj
        cases hl : listed.getD j true with
        | true => rfl
        | false =>
          have : j ∈ (List.range ops.size).filter fun j => !listed.getD j true := List.mem_filter.2 ⟨List.mem_range.2 hj, by simp only [hl]; rfl⟩
          rw [List.eq_nil_of_length_eq_zero (Nat.le_zero.1 hcnt)] at this
          cases this
      refine ⟨?_, done listed a w hall hG hd hs hF hR⟩
      apply List.eq_nil_iff_forall_not_mem.2
      intro j hj
      obtain ⟨h1, o, ho, _⟩ := mem_ready.1 hj
      have hlt : j < ops.size := (Array.getElem?_eq_some_iff.1 ho).1
      rw [hall j hlt] at h1
      cases h1
    | succ fuel ih =>
      intro listed a w hsz hcnt hG hPre hd hs hF hR hC
      refine ⟨fun hr => done listed a w (allUp listed hsz hr) hG hd hs hF hR, fun i hi => ?_⟩
      obtain ⟨hun, o, ho, hall⟩ := mem_ready.1 hi
      have hlt : i < ops.size := (Array.getElem?_eq_some_iff.1 ho).1
      have hlz : i < listed.size := by omega
      have hw : ∀ j, waitsB ops i j = true → j < ops.size ∧ listed.getD j true = true := by
        intro j hj
        obtain ⟨o', ho', e, he, hb, rfl⟩ := waits_some hj
        rw [ho] at ho'
        injection ho' with ho'
        subst ho'
        have h1 := hall e he hb
        rw [Array.getD_eq_getD_getElem?] at h1
        rcases Nat.lt_or_ge e.on listed.size with hl | hl
        · refine ⟨by omega, ?_⟩
          rw [Array.getD_eq_getD_getElem?]
          rw [Array.getElem?_eq_getElem hl] at h1 ⊢
          exact h1
        · rw [Array.getElem?_eq_none hl] at h1; cases h1
      have hstep := howes i hlt a w ⟨hG, hPre i hlt hun⟩ hd hs (fun j hj hsj => by have h1 := hF j (hw j hj).1 (hw j hj).2; rw [hsj] at h1; exact h1) (fun t ht => hR t fun j hj hl he => by
        have h1 := hC j hj hl i (ht j he)
        rw [Array.getD_eq_getD_getElem?, Array.getElem?_eq_getElem hlz] at h1 hun
        simp only [Option.getD_some] at h1 hun
        rw [h1] at hun; cases hun)
      refine wpOp_mono ?_ hstep
      rintro a' w' ⟨v, rfl, hg, hf⟩
      have hset : ∀ j b, (listed.setIfInBounds i true).getD j b = if j = i then true else listed.getD j b := by
        intro j b
        rw [Array.getD_eq_getD_getElem?, Array.getD_eq_getD_getElem?, Array.getElem?_setIfInBounds]
        by_cases e : i = j
        · subst e; simp [hlz]
        · rw [if_neg e, if_neg (fun h => e h.symm)]
      obtain ⟨o2, ho2, hd2, _⟩ := regGB_at hreg hlt
      have hdo : dstOf ops i = o2.dst := by unfold dstOf; rw [ho2]; rfl
      have hput : ∀ k, k < ops.size → k ≠ i → valAt ops (a.put (dstOf ops i) v) k = valAt ops a k := by
        intro k hk hne
        unfold valAt
        cases hkd : dstOf ops k with
        | none => rfl
        | some dk =>
          simp only
          refine put_other _ _ _ _ fun h => ?_
          exact (hd2 dk (by rw [← hdo]; exact h)).2 k hk hne hkd
      have hsr : ∀ k, k < ops.size → (src k = k ∧ (dstOf ops k).isSome = true) ∨ (dstOf ops k = none ∧ waitsB ops k (src k) = true ∧ (dstOf ops (src k)).isSome = true) := by
        intro k hk
        unfold srcB at hsrc
        rw [List.all_eq_true] at hsrc
        have := hsrc k (List.mem_range.2 hk)
        simp only [Bool.or_eq_true, Bool.and_eq_true, beq_iff_eq, Option.isNone_iff_eq_none] at this
        rcases this with h | h
        · exact .inl h
        · exact .inr ⟨h.1.1, h.1.2, h.2⟩
      refine ih (listed.setIfInBounds i true) (a.put (dstOf ops i) v) w' (by simp [hsz]) ?_ (htrans i hlt _ _ hG hg) (fun j hj hl => by
        by_cases e : j = i
        · rw [hset, if_pos e] at hl; cases hl
        · rw [hset, if_neg e] at hl
          exact hpres i j hlt hj e _ _ hG (hPre j hj hl) hg) (by rw [← hd]; cases dstOf ops i <;> rfl) (by rw [put_size, hs]) ?_ ?_ ?_
      · have := filter_less (p := fun j => !listed.getD j true) (q := fun j => !(listed.setIfInBounds i true).getD j true) (i := i) (l := List.range ops.size) (fun x hx => by
          rw [hset] at hx
          by_cases e : x = i
          · rw [if_pos e] at hx; cases hx
          · rw [if_neg e] at hx; exact hx) (List.mem_range.2 hlt) (by rw [hun]; rfl) (by rw [hset, if_pos rfl]; rfl)
        omega
      · intro j hj hl
        by_cases e : j = i
        · subst e
          rcases hsr j hj with ⟨h1, h2⟩ | ⟨h1, h2, h3⟩
          · rw [if_pos h1] at hf
            rw [h1]
            obtain ⟨d, hdj⟩ := Option.isSome_iff_exists.1 h2
            have h3 : valAt ops (a.put (dstOf ops j) v) j = v := by
              unfold valAt
              rw [hdj]
              simp only
              exact put_same _ _ _ (by rw [hs]; exact (hd2 d (by rw [← hdo]; exact hdj)).1)
            rw [h3]
            exact hf
          · have hne : src j ≠ j := fun e => by rw [e, h1] at h3; cases h3
            rw [if_neg hne] at hf
            rw [hput _ (hw _ h2).1 hne]
            exact hf
        · rw [hset, if_neg e] at hl
          have h1 := hmono i j hlt hj (fun h => e h.symm) _ _ _ (hF j hj hl) hg
          have hne : src j ≠ i ∧ src j < ops.size := by
            rcases hsr j hj with ⟨h2, _⟩ | ⟨_, h2, h3⟩
            · rw [h2]; exact ⟨e, hj⟩
            · constructor
              · intro h
                have h4 := hC j hj hl _ h2
                rw [h, Array.getD_eq_getD_getElem?, Array.getElem?_eq_getElem hlz] at h4
                rw [Array.getD_eq_getD_getElem?, Array.getElem?_eq_getElem hlz] at hun
                simp only [Option.getD_some] at h4 hun
                rw [h4] at hun; cases hun
              · rcases Nat.lt_or_ge (src j) ops.size with h | h
                · exact h
                · unfold dstOf at h3; rw [Array.getElem?_eq_none h] at h3; cases h3
          rw [hput _ hne.2 hne.1]
          exact h1
      · intro t ht
        have h1 : dstOf ops i ≠ some t := fun h => ht i hlt (by rw [hset, if_pos rfl]) h
        rw [put_other _ _ _ _ h1]
        exact hR t fun j hj hl => ht j hj (by rw [hset]; split <;> simp_all)
      · intro j hj hl k hk
        rw [hset]
        by_cases e : k = i
        · rw [if_pos e]
        · rw [if_neg e]
          by_cases e2 : j = i
          · subst e2
            have h1 := (hw k hk)
            have h2 : k < listed.size := by omega
            have h3 := h1.2
            rw [Array.getD_eq_getD_getElem?, Array.getElem?_eq_getElem h2] at h3 ⊢
            exact h3
          · rw [hset, if_neg e2] at hl
            exact hC j hj hl k hk
  refine wp_region_any hm ?_
  refine main ops.size (Array.replicate ops.size false) a0 w0.drew (by simp) ?_ hrefl (fun j hj _ => hpre0 j hj) rfl rfl ?_ ?_ ?_
  · exact Nat.le_trans (List.length_filter_le _ _) (by simp)
  · intro j hj hl
    rw [Array.getD_eq_getD_getElem?, Array.getElem?_eq_getElem (by simpa using hj)] at hl
    simp at hl
  · intro t _; rfl
  · intro j hj hl
    rw [Array.getD_eq_getD_getElem?, Array.getElem?_eq_getElem (by simpa using hj)] at hl
    simp at hl
def putO (vals : Nat → Value) : List (Option Tmp) → Nat → Act → Act
  | [], _, a => a
  | d :: ds, k, a => putO vals ds (k + 1) (a.put d (vals k))
theorem putO_eq {ops : Array Oper} (vals : Nat → Value) : ∀ (ds : List (Option Tmp)) (n k : Nat) (a : Act), (List.range' k n).map (dstOf ops) = ds → putL ops vals (List.range' k n) a = putO vals ds k a
  | [], n, k, a, h => by
    have : n = 0 := by simpa using congrArg List.length h
    subst this; rfl
  | d :: ds, 0, k, a, h => by simp at h
  | d :: ds, n + 1, k, a, h => by
    rw [List.range'_succ, List.map_cons] at h
    injection h with h1 h2
    rw [List.range'_succ]
    unfold putL putO
    rw [h1]
    exact putO_eq vals ds n (k + 1) _ h2
def relOf (sts : List (Nat × (World → World → Prop))) (i : Nat) : World → World → Prop := match sts.find? (fun p => p.1 == i) with
  | some p => p.2
  | none => Gw
def srcOf (ss : List (Nat × Nat)) (i : Nat) : Nat := match ss.find? (fun p => p.1 == i) with
  | some p => p.2
  | none => i
theorem region_byG {id : Nat} (Fs : List (Value → World → Prop)) (sts : List (Nat × (World → World → Prop))) (ss : List (Nat × Nat)) (ds : List (Option Tmp))
    (hm : P.follows .mixedOrders = true)
    (hreg : regGB ops a0.tmps.size = true) (hsrc : srcB ops (srcOf ss) = true) (hds : (List.range' 0 ops.size).map (dstOf ops) = ds)
    (hpure : ∀ f ∈ Fs, ∀ v a b, f v a → Gw a b → f v b)
    (hst : ∀ p ∈ sts, (∀ a b, Below w0.heap.size w0 a → p.2 a b → Below w0.heap.size w0 b) ∧ ∀ f ∈ Fs.eraseIdx p.1, ∀ v a b, f v a → p.2 a b → f v b)
    (howes : AllN (fun i => OwesG P ops Q (fun w w' => Below w.heap.size w w') (relOf sts i) (fun j => Fs.getD j fun _ _ => True) (srcOf ss) a0 w0 i) ops.size 0)
    (fin : ∀ (vals : Nat → Value) (w : World), Below w0.heap.size w0 w → (∀ j, j < ops.size → (Fs.getD j fun _ _ => True) (vals (srcOf ss j)) w) → Q .normal (putO vals ds 0 a0) w) :
    (Code.region id ops true).wp P Q a0 w0 := by
  have hrel : ∀ i, relOf sts i = Gw ∨ ∃ p ∈ sts, p.1 = i ∧ relOf sts i = p.2 := by
    intro i
    unfold relOf
    cases h : sts.find? (fun p => p.1 == i) with
    | none => exact .inl rfl
    | some p => exact .inr ⟨p, List.mem_of_find?_eq_some h, by have := List.find?_some h; simpa using this, rfl⟩
  refine region_factsG (G := fun w w' => Below w.heap.size w w') (DD := relOf sts) (src := srcOf ss) (fun _ _ => True) (fun _ _ => trivial) (fun _ _ _ _ _ _ _ _ _ _ => trivial) hm (Gw.drew _) ?_ ?_ hreg hsrc (fun i hi => (howes.at_ _ _ i (by omega) (by omega)).weak) ?_
  · intro i _ a b hG hD
    rcases hrel i with h | ⟨p, hp, _, h⟩
    · rw [h] at hD; exact hG.trans (Below.mono hD hG.size)
    · rw [h] at hD; exact (hst p hp).1 a b hG hD
  · intro i j _ _ hne v a b h g
    rw [List.getD_eq_getElem?_getD] at h ⊢
    cases hj : Fs[j]? with
    | none => exact trivial
    | some f =>
      rw [hj] at h
      rcases hrel i with hr | ⟨p, hp, e, hr⟩
      · rw [hr] at g; exact hpure f (List.mem_of_getElem? hj) v a b h g
      · rw [hr] at g
        refine (hst p hp).2 f ?_ v a b h g
        rw [e]
        refine List.mem_eraseIdx_iff_getElem?.2 ⟨j, fun h => hne h.symm, hj⟩
  · intro vals w hG hF
    rw [List.range_eq_range', putO_eq vals ds ops.size 0 a0 hds]
    exact fin vals w hG hF
/-- As region_byG, with any relation to the start. -/
theorem region_byK {id : Nat} (Fs : List (Value → World → Prop)) (sts : List (Nat × (World → World → Prop))) (ss : List (Nat × Nat)) (ds : List (Option Tmp))
    (G0 : World → Prop) (hm : P.follows .mixedOrders = true) (hd0 : G0 w0.drew) (hpg : ∀ a b, G0 a → Gw a b → G0 b) (mt : Nat) (Pre : World → Prop) (hp0 : Pre w0.drew) (hpp : ∀ a b, Pre a → Gw a b → Pre b) (hmt : ∀ p ∈ sts, p.1 = mt)
    (hreg : regGB ops a0.tmps.size = true) (hsrc : srcB ops (srcOf ss) = true) (hds : (List.range' 0 ops.size).map (dstOf ops) = ds)
    (hpure : ∀ f ∈ Fs, ∀ v a b, f v a → Gw a b → f v b)
    (hst : ∀ p ∈ sts, (∀ a b, G0 a → p.2 a b → G0 b) ∧ ∀ f ∈ Fs.eraseIdx p.1, ∀ v a b, f v a → p.2 a b → f v b)
    (howes : AllN (fun i => OwesG P ops Q (fun _ w' => G0 w' ∧ (if i = mt then Pre w' else True)) (relOf sts i) (fun j => Fs.getD j fun _ _ => True) (srcOf ss) a0 w0 i) ops.size 0)
    (fin : ∀ (vals : Nat → Value) (w : World), G0 w → (∀ j, j < ops.size → (Fs.getD j fun _ _ => True) (vals (srcOf ss j)) w) → Q .normal (putO vals ds 0 a0) w) :
    (Code.region id ops true).wp P Q a0 w0 := by
  have hrel : ∀ i, relOf sts i = Gw ∨ ∃ p ∈ sts, p.1 = i ∧ relOf sts i = p.2 := by
    intro i
    unfold relOf
    cases h : sts.find? (fun p => p.1 == i) with
    | none => exact .inl rfl
    | some p => exact .inr ⟨p, List.mem_of_find?_eq_some h, by have := List.find?_some h; simpa using this, rfl⟩
  refine region_factsG (G := fun _ w' => G0 w') (DD := relOf sts) (src := srcOf ss) (fun i w => if i = mt then Pre w else True) (fun i _ => by by_cases e : i = mt; rw [if_pos e]; exact hp0; rw [if_neg e]; trivial) (fun i k _ _ hne a b _ h g => by
    by_cases e : k = mt
    · rw [if_pos e] at h ⊢
      rcases hrel i with hr | ⟨p, hp, e2, hr⟩
      · rw [hr] at g; exact hpp a b h g
      · exact absurd ((hmt p hp).symm.trans e2) (fun h2 => hne (e.trans h2))
    · rw [if_neg e]; trivial) hm hd0 ?_ ?_ hreg hsrc (fun i hi => howes.at_ _ _ i (by omega) (by omega)) ?_
  · intro i _ a b hG hD
    rcases hrel i with h | ⟨p, hp, _, h⟩
    · rw [h] at hD; exact hpg a b hG hD
    · rw [h] at hD; exact (hst p hp).1 a b hG hD
  · intro i j _ _ hne v a b h g
    rw [List.getD_eq_getElem?_getD] at h ⊢
    cases hj : Fs[j]? with
    | none => exact trivial
    | some f =>
      rw [hj] at h
      rcases hrel i with hr | ⟨p, hp, e, hr⟩
      · rw [hr] at g; exact hpure f (List.mem_of_getElem? hj) v a b h g
      · rw [hr] at g
        refine (hst p hp).2 f ?_ v a b h g
        rw [e]
        refine List.mem_eraseIdx_iff_getElem?.2 ⟨j, fun h => hne h.symm, hj⟩
  · intro vals w hG hF
    rw [List.range_eq_range', putO_eq vals ds ops.size 0 a0 hds]
    exact fin vals w hG hF
/-- A value, and what holds of the world. -/
def AndV (c : Value) (P : World → Prop) (v : Value) (w : World) : Prop := v = c ∧ P w
theorem AndV.mono {c v : Value} {P : World → Prop} {a b : World} (hP : ∀ a b, P a → Gw a b → P b) (h : AndV c P v a) (g : Gw a b) : AndV c P v b := ⟨h.1, hP a b h.2 g⟩
end
end Go.Proofs.Ytkkjnahjmomjgaa
/- Stores into boxes that a region makes: the facts, and what such a store owes. No conditions. -/
namespace Go.Proofs.Ytkkjnahjmomjgaa
set_option linter.unusedVariables false
set_option linter.unusedSimpArgs false
open Go.RowKit Go.Maps
/-- A box of n cells of type T, made since B. -/
def BoxV (T : TypeId) (n B : Nat) (v : Value) (w : World) : Prop := ∃ k cs, v = .pointer (some ⟨k, 0, none⟩) ∧ B ≤ k ∧ cs.size = n ∧ Bk w k T cs
/-- A box that holds cs. -/
def BoxC (T : TypeId) (cs : Array Value) (B : Nat) (v : Value) (w : World) : Prop := ∃ k, v = .pointer (some ⟨k, 0, none⟩) ∧ B ≤ k ∧ Bk w k T cs
/-- A store into a box of n cells of type T, made since B. -/
def StD (T : TypeId) (n B : Nat) (a b : World) : Prop := ∃ k cs cs', B ≤ k ∧ cs.size = n ∧ cs'.size = n ∧ Bk a k T cs ∧ Bk b k T cs' ∧ Kept (fun c => c = k) a b
section
variable {T T' : TypeId} {n n' B B' : Nat} {cs : Array Value} {v c : Value} {a b : World}
theorem BoxV.mono (h : BoxV T n B v a) (g : Gw a b) : BoxV T n B v b := by
  obtain ⟨k, cs, e, h1, h2, h3⟩ := h
  exact ⟨k, cs, e, h1, h2, h3.below g h3.lt⟩
theorem BoxC.mono (h : BoxC T cs B v a) (g : Gw a b) : BoxC T cs B v b := by
  obtain ⟨k, e, h1, h3⟩ := h
  exact ⟨k, e, h1, h3.below g h3.lt⟩
theorem StD.below {B0 : Nat} {w0 : World} (hB : B0 ≤ B) (h : Below B0 w0 a) (hs : B0 ≤ a.heap.size) (g : StD T n B a b) : Below B0 w0 b := by
  obtain ⟨k, _, _, h1, _, _, _, _, h2⟩ := g
  exact h.trans (h2.below hs (fun c e => by omega))
theorem IsV.st (h : IsV c v a) (_ : StD T n B a b) : IsV c v b := h
theorem bk_type {w : World} {k : Nat} {E F : TypeId} {x y : Array Value} (h1 : Bk w k E x) (h2 : Bk w k F y) : E = F ∧ x = y := by
  unfold Bk at h1 h2
  rw [h1] at h2
  injection h2 with h2
  injection h2 with h2 h3 _
  exact ⟨h3, h2⟩
theorem BoxV.st (h : BoxV T' n' B' v a) (g : StD T n B a b) : BoxV T' n' B' v b := by
  obtain ⟨k, x, e, h1, h2, h3⟩ := h
  obtain ⟨k', y, y', _, g2, g3, g4, g5, g6⟩ := g
  by_cases hk : k = k'
  · subst hk
    obtain ⟨e1, e2⟩ := bk_type h3 g4
    subst e1
    exact ⟨k, y', e, h1, by rw [g3, ← g2, ← e2, h2], g5⟩
  · exact ⟨k, x, e, h1, h2, g6.bk h3 hk⟩
theorem BoxC.st (hT : T' ≠ T) (h : BoxC T' cs B' v a) (g : StD T n B a b) : BoxC T' cs B' v b := by
  obtain ⟨k, e, h1, h3⟩ := h
  obtain ⟨k', y, y', _, g2, g3, g4, g5, g6⟩ := g
  refine ⟨k, e, h1, g6.bk h3 fun hk => ?_⟩
  subst hk
  exact hT (bk_type h3 g4).1
end
def LQ (K : Act → World → Prop) : Exit → Act → World → Prop
  | .normal, a, w => K a w
  | _, _, _ => False
section
variable {P : Program} {ops : Array Oper} {Q : Exit → Act → World → Prop} {G : World → World → Prop} {F : Nat → Value → World → Prop} {a0 : Act} {w0 : World} {src : Nat → Nat}
theorem OwesG.mk2 {i : Nat} {D : World → World → Prop} {F' : Nat → Value → World → Prop} (hs0 : src i = i) (hF' : ∀ j v w, (src j = j → F j v w) → F' j v w) (hFi : ∀ v w, F' i v w → F i v w) (h : OwesD P ops Q G D F' a0 w0 i) : OwesG P ops Q G D F src a0 w0 i := by
  intro a w hG hd hs hF hR
  refine wpOp_mono ?_ (h a w hG hd hs (fun j hj => hF' j _ _ (hF j hj)) hR)
  rintro a' w' ⟨v, e, hg, hf⟩
  exact ⟨v, e, hg, by rw [if_pos hs0]; exact hFi _ _ hf⟩
end
end Go.Proofs.Ytkkjnahjmomjgaa
/- image.Encode: the region of a Root. No conditions. -/
namespace Go.Proofs.Ytkkjnahjmomjgaa
set_option linter.unusedVariables false
set_option linter.unusedSimpArgs false
open Go.RowKit Go.Maps
set_option maxHeartbeats 4000000
set_option maxRecDepth 100000
theorem ien21 (Q : Exit → Act → World → Prop) (a0 : Act) (w : World) (g Rb i at_ : Nat) (st : ByteArray) (to : Int) (qb NN cq : Nat) (G : Nat → Prop) (K : World → Prop) (hR : Rb < w.heap.size) (hRn : ¬ G Rb) (c0 : w.cell? ⟨Rb, 0, none⟩ = some (.string st)) (c1 : w.cell? ⟨Rb, 1, none⟩ = some (.int .i64 to)) (hB : Hid (∀ W, Calls Try.prog 25 #[.int .i64 (i : Int)] W (RetP (.int .i64 (at_ : Int)) W))) (hK : ∀ a b, K a → Gw a b → K b) (hp : Hid (∀ W, Below w.heap.size w W → Calls Try.prog 29 #[.pointer (some ⟨g, 0, none⟩), .int .i64 (at_ : Int), .agg #[.string st, .int .i64 to], (.slice (some ⟨qb, 0, none⟩) NN cq)] W (fun e w2 => ∃ v, e = .returned v ∧ Kept G W w2 ∧ AndV (.int .i64 0) K v w2))) (hsz : a0.tmps.size = 84) (sl6 : a0.tmps.getD 6 undef = .pointer (some ⟨g, 0, none⟩)) (sl9 : a0.tmps.getD 9 undef = .slice (some ⟨qb, 0, none⟩) NN cq) (sl10 : a0.tmps.getD 10 undef = .int .i64 (i : Int)) (sl11 : a0.tmps.getD 11 undef = .pointer (some ⟨Rb, 0, none⟩))
    (fin : ∀ (vals : Nat → Value) (w1 : World), Kept G w w1 → (IsV (.int .i64 0)) (vals 6) w1 → (AndV (.int .i64 0) K) (vals 5) w1 → Q .normal (putO vals [some 72, some 73, some 74, some 75, some 76, some 77, some 12] 0 a0) w1) :
    (Code.region 21 (regIn Try.f10 21) true).wp Try.prog Q a0 w := by
  have hGs : ∀ (j : Nat) (v : Value) (w3 : World), (srcOf [] j = j → (([IsV (.pointer (some ⟨g, 0, none⟩)), IsV (.int .i64 (i : Int)), IsV (.int .i64 (at_ : Int)), IsV (.agg #[.string st, .int .i64 to]), IsV (.slice (some ⟨qb, 0, none⟩) NN cq), AndV (.int .i64 0) K, IsV (.int .i64 0)] : List (Value → World → Prop)).getD j fun _ _ => True) v w3) → (([IsV (.pointer (some ⟨g, 0, none⟩)), IsV (.int .i64 (i : Int)), IsV (.int .i64 (at_ : Int)), IsV (.agg #[.string st, .int .i64 to]), IsV (.slice (some ⟨qb, 0, none⟩) NN cq), AndV (.int .i64 0) K, IsV (.int .i64 0)] : List (Value → World → Prop)).getD j fun _ _ => True) v w3 := by
    intro j v w3 h
    match j, h with
    | 0, h => exact h rfl
    | 1, h => exact h rfl
    | 2, h => exact h rfl
    | 3, h => exact h rfl
    | 4, h => exact h rfl
    | 5, h => exact h rfl
    | 6, h => exact h rfl
    | _ + 7, _ => exact trivial
  refine region_byK [IsV (.pointer (some ⟨g, 0, none⟩)),
    IsV (.int .i64 (i : Int)),
    IsV (.int .i64 (at_ : Int)),
    IsV (.agg #[.string st, .int .i64 to]),
    IsV (.slice (some ⟨qb, 0, none⟩) NN cq),
    AndV (.int .i64 0) K,
    IsV (.int .i64 0)] [(5, fun w w1 => Kept G w w1)] []
    [some 72, some 73, some 74, some 75, some 76, some 77, some 12] (fun w1 => Kept G w w1) (by kernel_rfl) (Kept.of_below (Gw.drew _) _) (fun _ _ h g => h.trans (Kept.of_below g _)) 5 (fun w1 => Below w.heap.size w w1) (Gw.drew _) (fun _ _ h g => h.trans (Below.mono g h.size)) (by intro p hp; simp only [List.mem_cons, List.not_mem_nil, or_false] at hp; subst hp; rfl) (by rw [hsz]; kernel_rfl) (by kernel_rfl) (by kernel_rfl) ?_ ?_ ?_ ?_
  · intro f hf
    simp only [List.mem_cons, List.not_mem_nil, or_false] at hf
    rcases hf with rfl | rfl | rfl | rfl | rfl | rfl | rfl <;> intro v a b h g <;> first | exact IsV.mono h | exact BoxV.mono h g | exact BoxC.mono h g | exact AndV.mono hK h g
  · intro p hp
    simp only [List.mem_cons, List.not_mem_nil, or_false] at hp
    rcases hp with rfl
    · refine ⟨fun a b h1 h2 => h1.trans h2, ?_⟩
      intro f hf
      simp only [List.eraseIdx_cons_succ, List.eraseIdx_cons_zero, List.mem_cons, List.not_mem_nil, or_false] at hf
      rcases hf with rfl | rfl | rfl | rfl | rfl | rfl <;> intro v a b h g <;> exact h
  · refine ⟨?_, ?_, ?_, ?_, ?_, ?_, ?_, trivial⟩
    · refine OwesG.mk2 (D := Gw) (F' := fun j => ([IsV (.pointer (some ⟨g, 0, none⟩)), IsV (.int .i64 (i : Int)), IsV (.int .i64 (at_ : Int)), IsV (.agg #[.string st, .int .i64 to]), IsV (.slice (some ⟨qb, 0, none⟩) NN cq), AndV (.int .i64 0) K, IsV (.int .i64 0)] : List (Value → World → Prop)).getD j fun _ _ => True) rfl hGs (fun v w h => h) ?_
      exact owes_mvD gw_self 6 (by kernel_rfl) (by kernel_rfl) (by kernel_rfl) sl6 (fun _ => rfl)
    · refine OwesG.mk2 (D := Gw) (F' := fun j => ([IsV (.pointer (some ⟨g, 0, none⟩)), IsV (.int .i64 (i : Int)), IsV (.int .i64 (at_ : Int)), IsV (.agg #[.string st, .int .i64 to]), IsV (.slice (some ⟨qb, 0, none⟩) NN cq), AndV (.int .i64 0) K, IsV (.int .i64 0)] : List (Value → World → Prop)).getD j fun _ _ => True) rfl hGs (fun v w h => h) ?_
      exact owes_mvD gw_self 10 (by kernel_rfl) (by kernel_rfl) (by kernel_rfl) sl10 (fun _ => rfl)
    · refine OwesG.mk2 (D := Gw) (F' := fun j => ([IsV (.pointer (some ⟨g, 0, none⟩)), IsV (.int .i64 (i : Int)), IsV (.int .i64 (at_ : Int)), IsV (.agg #[.string st, .int .i64 to]), IsV (.slice (some ⟨qb, 0, none⟩) NN cq), AndV (.int .i64 0) K, IsV (.int .i64 0)] : List (Value → World → Prop)).getD j fun _ _ => True) rfl hGs (fun v w h => h) ?_
      refine owes_vD (Go.Op.call { callee := Go.Callee.value (Go.Operand.func 25), args := #[Go.Operand.tmp 73], argTypes := #[3] }) 3 [1] (by kernel_rfl) (by kernel_rfl) (by kernel_rfl) rfl fun vals w1 ρ hG hF hρ hcst hfun => ?_
      have e73 : ρ (.tmp 73) = .int .i64 (i : Int) := ((hρ 73).trans (slotJ [1] (by rw [hsz]; decide) (by kernel_rfl))).trans (hF 1 (by decide))
      obtain ⟨hG, _⟩ := hG
      clear hρ hF hGs hcst sl6 sl9 sl10 sl11 fin
      exact opv_enter (by go_simp <;> rfl) (of_ret (hB.out w1))
    · refine OwesG.mk2 (D := Gw) (F' := fun j => ([IsV (.pointer (some ⟨g, 0, none⟩)), IsV (.int .i64 (i : Int)), IsV (.int .i64 (at_ : Int)), IsV (.agg #[.string st, .int .i64 to]), IsV (.slice (some ⟨qb, 0, none⟩) NN cq), AndV (.int .i64 0) K, IsV (.int .i64 0)] : List (Value → World → Prop)).getD j fun _ _ => True) rfl hGs (fun v w h => h) ?_
      refine owes_vD (Go.Op.load 56 (Go.Operand.tmp 11)) 56 [] (by kernel_rfl) (by kernel_rfl) (by kernel_rfl) rfl fun vals w1 ρ hG hF hρ hcst hfun => ?_
      have e11 : ρ (.tmp 11) = .pointer (some ⟨Rb, 0, none⟩) := ((hρ 11).trans (slotO [] (by kernel_rfl))).trans sl11
      obtain ⟨hG, _⟩ := hG
      have k0 := (hG.cell (p := ⟨Rb, 0, none⟩) hR hRn).trans c0; have k1 := (hG.cell (p := ⟨Rb, 1, none⟩) hR hRn).trans c1
      clear hρ hF hGs hcst hfun sl6 sl9 sl10 sl11 fin
      exact opv_val (by go_simp <;> rfl) ⟨gw_self _, rfl⟩
    · refine OwesG.mk2 (D := Gw) (F' := fun j => ([IsV (.pointer (some ⟨g, 0, none⟩)), IsV (.int .i64 (i : Int)), IsV (.int .i64 (at_ : Int)), IsV (.agg #[.string st, .int .i64 to]), IsV (.slice (some ⟨qb, 0, none⟩) NN cq), AndV (.int .i64 0) K, IsV (.int .i64 0)] : List (Value → World → Prop)).getD j fun _ _ => True) rfl hGs (fun v w h => h) ?_
      exact owes_mvD gw_self 9 (by kernel_rfl) (by kernel_rfl) (by kernel_rfl) sl9 (fun _ => rfl)
    · refine OwesG.mk2 (D := fun w w1 => Kept G w w1) (F' := fun j => ([IsV (.pointer (some ⟨g, 0, none⟩)), IsV (.int .i64 (i : Int)), IsV (.int .i64 (at_ : Int)), IsV (.agg #[.string st, .int .i64 to]), IsV (.slice (some ⟨qb, 0, none⟩) NN cq), AndV (.int .i64 0) K, IsV (.int .i64 0)] : List (Value → World → Prop)).getD j fun _ _ => True) rfl hGs (fun v w h => h) ?_
      refine owes_vD (Go.Op.call { callee := Go.Callee.value (Go.Operand.func 29), args := #[Go.Operand.tmp 72, Go.Operand.tmp 74, Go.Operand.tmp 75, Go.Operand.tmp 76], argTypes := #[61, 3, 56, 49] }) 34 [0, 2, 3, 4] (by kernel_rfl) (by kernel_rfl) (by kernel_rfl) rfl fun vals w1 ρ hG hF hρ hcst hfun => ?_
      have e72 : ρ (.tmp 72) = .pointer (some ⟨g, 0, none⟩) := ((hρ 72).trans (slotJ [0, 2, 3, 4] (by rw [hsz]; decide) (by kernel_rfl))).trans (hF 0 (by decide))
      have e74 : ρ (.tmp 74) = .int .i64 (at_ : Int) := ((hρ 74).trans (slotJ [0, 2, 3, 4] (by rw [hsz]; decide) (by kernel_rfl))).trans (hF 2 (by decide))
      have e75 : ρ (.tmp 75) = .agg #[.string st, .int .i64 to] := ((hρ 75).trans (slotJ [0, 2, 3, 4] (by rw [hsz]; decide) (by kernel_rfl))).trans (hF 3 (by decide))
      have e76 : ρ (.tmp 76) = .slice (some ⟨qb, 0, none⟩) NN cq := ((hρ 76).trans (slotJ [0, 2, 3, 4] (by rw [hsz]; decide) (by kernel_rfl))).trans (hF 4 (by decide))
      obtain ⟨hG, hPre⟩ := hG; have hPre : Below w.heap.size w w1 := hPre
      clear hρ hF hGs hcst sl6 sl9 sl10 sl11 fin
      exact opv_enter (by go_simp <;> rfl) (hp.out w1 hPre)
    · refine OwesG.mk2 (D := Gw) (F' := fun j => ([IsV (.pointer (some ⟨g, 0, none⟩)), IsV (.int .i64 (i : Int)), IsV (.int .i64 (at_ : Int)), IsV (.agg #[.string st, .int .i64 to]), IsV (.slice (some ⟨qb, 0, none⟩) NN cq), AndV (.int .i64 0) K, IsV (.int .i64 0)] : List (Value → World → Prop)).getD j fun _ _ => True) rfl hGs (fun v w h => h) ?_
      exact owes_mvjD gw_self 5 77 (by kernel_rfl) (by kernel_rfl) (by kernel_rfl) (by kernel_rfl) (by rw [hsz]; decide) (fun v w h => h.1)
  · intro vals w1 hG hF
    exact fin vals w1 hG (hF 6 (by decide +kernel)) (hF 5 (by decide +kernel))
end Go.Proofs.Ytkkjnahjmomjgaa
/- image.Encode of any graph: its words, or why not. Conditions: lengths. -/
namespace Go.Proofs.Ytkkjnahjmomjgaa
set_option linter.unusedVariables false
set_option linter.unusedSimpArgs false
open Go.RowKit Go.Maps
set_option maxHeartbeats 8000000
set_option maxRecDepth 100000
theorem roots_all (pl : List Nat) (ns : List Nv) (rs : List Rv) (need : Nat) (h : need = endL ns (2 + 5 * rs.length)) (hp : pl = placeL ns (2 + 5 * rs.length)) : rootsW pl (frontW rs.length need) rs rs.length rs.length (ns.flatMap (nodeW pl)) = encW ns rs := by
  unfold rootsW encW
  rw [List.take_length, Nat.sub_self, h, hp]
  simp
theorem rootsW_len (pl : List Nat) (F : List (BitVec 64)) (rs : List Rv) (j : Nat) (C : List (BitVec 64)) (h32 : ∀ r ∈ rs, r.s.size ≤ 32) (hF : F.length = 2) (hj : j ≤ rs.length) : (rootsW pl F rs j rs.length C).length = 2 + 5 * rs.length + C.length := by
  unfold rootsW
  rw [List.length_append, List.length_append, List.length_append, List.length_replicate, roots_len _ _ (fun r hr => h32 r (List.mem_of_mem_take hr)), List.length_take, hF]
  omega
theorem roots_none (pl : List Nat) (rs : List Rv) (x y : BitVec 64) (C : List (BitVec 64)) : ((List.replicate (2 + 5 * rs.length) 0#64 ++ C).set 0 x).set 1 y = rootsW pl [x, y] rs 0 rs.length C := by
  unfold rootsW
  rw [List.take_zero, Nat.sub_zero, Nat.add_comm 2, List.replicate_succ, List.replicate_succ]
  rfl
theorem with_front (R t : Nat) (hR : R ≤ 64) (ht : t ≤ 8192) : withB (BitVec.ofNat 64 R) 16 32 (BitVec.ofNat 64 t) = BitVec.ofNat 64 (R + t * 65536) := by
  unfold withB
  rw [if_pos (by decide)]
  apply BitVec.eq_of_toNat_eq
  have hl : (lowB 32).toNat = 4294967295 := by decide +kernel
  have h1 : BitVec.ofNat 64 R &&& ~~~(lowB 32 <<< (16 : Int).toNat) = BitVec.ofNat 64 R := by
    apply BitVec.eq_of_getLsbD_eq
    intro i hi
    rw [BitVec.getLsbD_and, BitVec.getLsbD_not]
    by_cases h : i < 16
    · have e : (lowB 32 <<< (16 : Int).toNat).getLsbD i = false := by
        rw [BitVec.getLsbD_shiftLeft]
        have : i < (16 : Int).toNat := h
        simp [this]
        intro _ h2
        omega
      rw [e]
      simp [hi]
    · have e : (BitVec.ofNat 64 R).getLsbD i = false := by
        rw [BitVec.getLsbD_ofNat]
        have : R < 2 ^ i := Nat.lt_of_lt_of_le (show R < 2 ^ 16 by omega) (Nat.pow_le_pow_right (by decide) (by omega))
        simp [Nat.testBit_lt_two_pow this]
      rw [e]
      rfl
  have h2 : (BitVec.ofNat 64 t &&& lowB 32) = BitVec.ofNat 64 t := by
    apply BitVec.eq_of_toNat_eq
    rw [BitVec.toNat_and, hl, BitVec.toNat_ofNat, Nat.mod_eq_of_lt (by omega), show 4294967295 = 2 ^ 32 - 1 from rfl, Nat.and_two_pow_sub_one_eq_mod, Nat.mod_eq_of_lt (by omega)]
  rw [h1, h2, BitVec.toNat_or, BitVec.toNat_shiftLeft, BitVec.toNat_ofNat, BitVec.toNat_ofNat, BitVec.toNat_ofNat, Nat.mod_eq_of_lt (show R < 2 ^ 64 by omega), Nat.mod_eq_of_lt (show t < 2 ^ 64 by omega), Nat.mod_eq_of_lt (show R + t * 65536 < 2 ^ 64 by omega)]
  show R ||| (t <<< 16 % 2 ^ 64) = R + t * 65536
  rw [Nat.shiftLeft_eq, Nat.mod_eq_of_lt (by omega), Nat.or_comm, Nat.mul_comm t, ← Nat.two_pow_add_eq_or_of_lt (i := 16) (by omega) t]
  omega
theorem iencode_c (w : World) (g : Gv) (hg : g.At w w.heap.size) (hs : g.Small) : Calls Try.prog 10 #[g.v] w (EncX g w) := by
  have HCk := Lib.hid (fun W (b : Below w.heap.size w W) => check_c W g (hg.up b) hs)
  have HNd0 := fun W (b : Below w.heap.size w W) => ineed_c W g (hg.up b) hs
  obtain ⟨E, hE⟩ : ∃ E, E = EncX g w := ⟨_, rfl⟩
  have HE := Lib.hid hE
  have HG := Lib.hid (And.intro hg hs)
  obtain ⟨er, her⟩ : ∃ er, er = ckG g := ⟨_, rfl⟩
  have HEr := Lib.hid her
  rw [← her] at HCk
  obtain ⟨need, hnd⟩ : ∃ nd, nd = endL g.n (2 + 5 * g.r.length) := ⟨_, rfl⟩
  have HNd := Lib.hid (fun (h0 : ckG g = 0) W (b : Below w.heap.size w W) => show Calls Try.prog 14 #[g.v] W (RetP (.int .i64 (need : Int)) W) from by
    have h1 := wordsL_end g.n (fun x hx => ((ckG_ok h0).1 x hx).2)
    have h2 := HNd0 W b
    rw [h1, show ((2 + 5 * g.r.length : Nat) : Int) + (endL g.n 0 : Int) = (need : Int) from by rw [hnd, endL_add g.n (2 + 5 * g.r.length)]; omega] at h2
    exact h2)
  have HNn := Lib.hid hnd
  rw [← hE]
  obtain ⟨A, ca, A2, ca2, ns, rs⟩ := g
  obtain ⟨N, hN⟩ : ∃ N, N = ns.length := ⟨_, rfl⟩
  obtain ⟨M, hM⟩ : ∃ M, M = rs.length := ⟨_, rfl⟩
  have HN := Lib.hid (And.intro hN hM)
  have NI : (N : Int) ≤ 1000000 := by rw [hN]; exact Int.ofNat_le.2 hs.1
  have MI : (M : Int) ≤ 1000000 := by rw [hM]; exact Int.ofNat_le.2 hs.2.1
  unfold Gv.v Gv.vn Gv.vr at HCk HNd ⊢
  simp only at HCk HNd ⊢
  rw [← hN, ← hM] at HCk HNd ⊢
  clear hg hs hE her hnd hN hM HNd0
  go_enter Try.func10, Try.ntmps10
  go_wp2_with fail
  obtain ⟨G, hG⟩ : ∃ G, G = w.heap.size := ⟨_, rfl⟩
  obtain ⟨w1, hw1⟩ : ∃ W, W = w.alloc (.cells #[.slice A N ca, .slice A2 M ca2] 25) := ⟨_, rfl⟩
  have hbk : Bk w1 G 25 #[.slice A N ca, .slice A2 M ca2] := by rw [hw1, hG]; exact Bk.new w _ _
  have b1 : Below w.heap.size w w1 := by rw [hw1]; exact Gw.alloc w _
  rw [← hw1, ← hG]
  have H1 := Lib.hid (And.intro hbk b1)
  clear hw1 hG hbk b1
  refine Calls.mono (HCk.out w1 H1.out.2) ?_
  rintro r w2 ⟨rfl, b2⟩
  have H2 := Lib.hid (And.intro (H1.out.1.below b2 H1.out.1.lt) (H1.out.2.trans (b2.mono H1.out.2.size)))
  obtain ⟨g0, g1⟩ := H2.out.1.two
  have hGl := H2.out.1.lt
  clear b2
  by_cases he : er = 0
  · subst he
    go_wp2_with fail
    refine Calls.mono (HNd.out HEr.out.symm w2 H2.out.2) ?_
    rintro r w3 ⟨rfl, b3⟩
    have H3 := Lib.hid (And.intro (H2.out.1.below b3 H2.out.1.lt) (H2.out.2.trans (b3.mono H2.out.2.size)))
    clear b3 g0 g1 hGl
    obtain ⟨g0, g1⟩ := H3.out.1.two
    have hGl := H3.out.1.lt
    by_cases hlong : 8192 < need
    · have t1 : (8192 : Int) < (need : Int) := by omega
      have e3 : errG ⟨A, ca, A2, ca2, ns, rs⟩ = 3 := by
        unfold errG
        rw [if_pos HEr.out.symm, if_pos (by show 8192 < endL ns (2 + 5 * rs.length); have h5 : need = endL ns (2 + 5 * rs.length) := HNn.out; omega)]
      have HE3 := Lib.hid e3
      clear e3
      go_wp2_with fail
      rw [HE.out]
      exact .inl ⟨by rw [HE3.out]; decide, by rw [HE3.out]; rfl, H3.out.2⟩
    · have t1 : ¬ (8192 : Int) < (need : Int) := by omega
      have t2 : (need : Int) ≤ 8192 := by omega
      have hck := ckG_ok HEr.out.symm
      simp only at hck
      have hM64 : M ≤ 64 := by rw [HN.out.2]; exact hck.2.1
      have MJ : (M : Int) ≤ 64 := by omega
      obtain ⟨b, hb⟩ : ∃ b, b = 2 + 5 * M := ⟨_, rfl⟩
      have hneed : need = endL ns b := by rw [hb, HN.out.2]; exact HNn.out
      have hbn : b ≤ need := by rw [hneed]; exact endL_ge ns b
      have HBs := Lib.hid (fun W => ibase_c M (by omega) W)
      rw [← hb] at HBs
      have HD := Lib.hid (And.intro hck (And.intro hM64 (And.intro hb (And.intro hneed (And.intro hbn (show need ≤ 8192 by omega))))))
      have HNw := Lib.hid (new_in w3 need (by omega))
      clear hck hM64 hb hneed hbn hlong HCk HNd
      go_wp2_with fail
      refine Calls.mono HNw.out ?_
      rintro r w4 ⟨m, v, rfl, hm, b4⟩
      have H4 := Lib.hid (And.intro hm (And.intro b4 (H3.out.1.below b4 H3.out.1.lt)))
      clear hm b4 g0 g1 hGl HNw
      obtain ⟨g0, g1⟩ := H4.out.2.2.two
      have hGl := H4.out.2.2.lt
      go_wp2_with fail
      refine Calls.mono (HBs.out w4) ?_
      rintro r w5 ⟨rfl, b5⟩
      have H5 := Lib.hid (And.intro (H4.out.1.below b5) (And.intro (H4.out.2.1.trans (b5.mono H4.out.2.1.size)) (H4.out.2.2.below b5 H4.out.2.2.lt)))
      clear b5 g0 g1 hGl H4
      have HSn := Lib.hid (snew_in w5 w3.heap.size m v (List.replicate need 0#64) b need H5.out.1 HD.out.2.2.2.2.1 (by rw [List.length_replicate]; exact Nat.le_refl _) (by rw [List.length_replicate]; have := HD.out.2.2.2.2.2; omega))
      go_wp2_with fail
      refine Calls.mono HSn.out ?_
      rintro r w6 ⟨s, rfl, sp6, b6⟩
      have H6 := Lib.hid (And.intro sp6 (And.intro (H5.out.2.1.trans (b6.mono H5.out.2.1.size)) (H5.out.2.2.below b6 H5.out.2.2.lt)))
      clear sp6 b6 HSn H5
      obtain ⟨g0, g1⟩ := H6.out.2.2.two
      have hGl := H6.out.2.2.lt
      have HPn := Lib.hid (putNodes_c w6 w3.heap.size s m v ns b need ca A H6.out.1 HD.out.2.2.2.1 HD.out.2.2.2.2.2 ((HG.out.1.n.below (H3.out.2.trans (H6.out.2.1.mono H3.out.2.size))).more H3.out.2.size) HD.out.1.1)
      rw [← HN.out.1] at HPn
      go_wp2_with fail
      refine Calls.mono HPn.out ?_
      rintro r w7 ⟨pv, rfl, p7, b7⟩
      obtain ⟨S, hS⟩ : ∃ S, S = w6.heap.size := ⟨_, rfl⟩
      rw [← hS] at p7
      obtain ⟨qb, cq, eo, hqS⟩ := ow_iV_some (x := -1) (l := (placeL ns b).map (fun a : Nat => (a : Int))) p7.row
      rw [List.length_map, placeL_len] at eo
      subst eo
      have H7 := Lib.hid (And.intro p7 (And.intro (H6.out.2.1.trans b7) (H6.out.2.2.below b7 (Nat.lt_of_lt_of_le H3.out.1.lt (Nat.le_refl _)))))
      clear p7 b7 g0 g1 hGl hqS hS HPn
      obtain ⟨ws, hws⟩ : ∃ ws, ws = List.replicate b 0#64 ++ ns.flatMap (nodeW (placeL ns b)) := ⟨_, rfl⟩
      have hwl : ws.length = need := by
        rw [hws, List.length_append, List.length_replicate, nodesW_len]
        exact HD.out.2.2.2.1.symm
      rw [← hws] at H7
      have hwl2 : (ws.set 0 1296125772#64).length = need := by rw [List.length_set]; exact hwl
      have hn2 : 2 ≤ need := by have := HD.out.2.2.2.2.1; have := HD.out.2.2.1; omega
      have HSt0 := Lib.hid (fun W (mm : MemAt W w3.heap.size m v ws) => show Calls Try.prog 27 #[.pointer (some ⟨m, 0, none⟩), .int .i64 0, .int .u64 1296125772] W (fun e w' => e = .returned (.int .i64 0) ∧ MemAt w' w3.heap.size m v (ws.set 0 1296125772#64) ∧ W.grownBy w' v.ownBlock) from set_in W w3.heap.size m v ws 0 1296125772#64 (by omega) (by have := HD.out.2.2.2.2.2; omega) mm)
      obtain ⟨fr, hfr⟩ : ∃ fr, fr = BitVec.ofNat 64 (M + need * 65536) := ⟨_, rfl⟩
      have HSt1 := Lib.hid (fun W (mm : MemAt W w3.heap.size m v (ws.set 0 1296125772#64)) => show Calls Try.prog 27 #[.pointer (some ⟨m, 0, none⟩), .int .i64 1, .int .u64 (U64 fr)] W (fun e w' => e = .returned (.int .i64 0) ∧ MemAt w' w3.heap.size m v ((ws.set 0 1296125772#64).set 1 fr) ∧ W.grownBy w' v.ownBlock) from set_in W w3.heap.size m v (ws.set 0 1296125772#64) 1 fr (by omega) (by have := HD.out.2.2.2.2.2; omega) mm)
      have HWi := Lib.hid (fun W => show Ans Try.prog 28 #[.int .u64 (M : Int), .int .i64 16, .int .i64 32, .int .u64 (need : Int)] W (.int .u64 (U64 fr)) from by
        have h := with_c (BitVec.ofNat 64 M) 16 32 (BitVec.ofNat 64 need) W
        rw [with_front M need HD.out.2.1 HD.out.2.2.2.2.2, ← hfr, ofNat_U64 M (by have := HD.out.2.1; omega), ofNat_U64 need (by have := HD.out.2.2.2.2.2; omega)] at h
        exact h)
      have hro := roots_none (placeL ns b) rs 1296125772#64 fr (ns.flatMap (nodeW (placeL ns b)))
      rw [← HN.out.2, ← HD.out.2.2.1, ← hws] at hro
      have HRo := Lib.hid (And.intro hro (And.intro hfr hwl))
      clear hws hwl hwl2 hn2 hfr hro H6
      go_wp2_with fail
      refine Calls.mono (HSt0.out w7 H7.out.1.sp.mem) ?_
      rintro r w8 ⟨rfl, m8, g8⟩
      have H8 := Lib.hid (show PuAt w8 w3.heap.size s m v (ws.set 0 1296125772#64) b need need S (.slice (some ⟨qb, 0, none⟩) (ns.length + 1) cq) (plI ns b) ∧ Below w3.heap.size w3 w8 from
        ⟨H7.out.1.two (H7.out.1.sp.memTo m8 g8 List.length_set) (Two.grown g8), H7.out.2.1.trans (H7.out.1.sp.mem.own g8)⟩)
      clear m8 g8 H7 HSt0
      have hb8 := H3.out.1.below H8.out.2 H3.out.1.lt
      obtain ⟨g0, g1⟩ := hb8.two
      have hGl := hb8.lt
      clear hb8
      go_wp2_with fail
      refine Calls.mono (HWi.out w8) ?_
      rintro r w9 ⟨rfl, hb9⟩
      have H9 := Lib.hid (show PuAt w9 w3.heap.size s m v (ws.set 0 1296125772#64) b need need S (.slice (some ⟨qb, 0, none⟩) (ns.length + 1) cq) (plI ns b) ∧ Below w3.heap.size w3 w9 from
        ⟨H8.out.1.below (hb9.below _), H8.out.2.trans (hb9.below _)⟩)
      clear hb9 H8 HWi g0 g1 hGl
      go_wp2_with fail
      refine Calls.mono (HSt1.out w9 H9.out.1.sp.mem) ?_
      rintro r w10 ⟨rfl, m10, g10⟩
      have HS0 : Hid (PuAt w10 w3.heap.size s m v (rootsW (placeL ns b) (frontW M need) rs 0 M (ns.flatMap (nodeW (placeL ns b)))) b need need S (.slice (some ⟨qb, 0, none⟩) (ns.length + 1) cq) (plI ns b) ∧ Below w3.heap.size w3 w10) := Lib.hid
        ⟨H9.out.1.two (by
          have h1 := H9.out.1.sp.memTo m10 g10 List.length_set
          rw [HRo.out.1, HRo.out.2.1] at h1
          exact h1) (Two.grown g10), H9.out.2.trans (H9.out.1.sp.mem.own g10)⟩
      clear m10 g10 H9 HSt1
      have hb10 := H3.out.1.below HS0.out.2 H3.out.1.lt
      obtain ⟨g0, g1⟩ := hb10.two
      have hGl := hb10.lt
      clear hb10
      go_wp2_with fail
      clear g0 g1 hGl
      go_loopw [67] (fun x W => ∃ j : Nat, x = .int .i64 j ∧ j ≤ M ∧ Hid (PuAt W w3.heap.size s m v (rootsW (placeL ns b) (frontW M need) rs j M (ns.flatMap (nodeW (placeL ns b)))) b need need S (.slice (some ⟨qb, 0, none⟩) (ns.length + 1) cq) (plI ns b) ∧ Below w3.heap.size w3 W)) (fun x _ => M - (Go.RowKit.intOf x).toNat)
      case atStart => exact ⟨0, rfl, Nat.zero_le _, HS0⟩
      case round =>
        obtain ⟨j, rfl, hj, hS⟩ := hrel
        clear HS0
        have p0 : (0 : Int) ≤ (j : Int) := by omega
        obtain ⟨e1, e2⟩ := hS.out
        have hww : Below w.heap.size w wr := H3.out.2.trans (e2.mono H3.out.2.size)
        by_cases hlt : j < M
        · have p1 : (j : Int) < (M : Int) := by omega
          have hjl : j < rs.length := by rw [← HN.out.2]; exact hlt
          obtain ⟨x, hx⟩ : ∃ x, x = rs[j] := ⟨_, rfl⟩
          obtain ⟨ad, rfl, hc2, hc3⟩ : ∃ ad, A2 = some ad ∧ wr.cell? (ad.add (j * 2)) = some (.string x.s) ∧ wr.cell? ⟨(ad.add (j * 2)).block, (ad.add (j * 2)).off + 1, none⟩ = some (.int .i64 x.t) := by
            obtain ⟨ad, e, _, h1, h2⟩ := (HG.out.1.r.below hww) j hjl
            exact ⟨ad, e, by rw [hx]; exact h1, by rw [hx]; exact h2⟩
          obtain ⟨x1, x2⟩ := HD.out.1.2.2 x (by rw [hx]; exact List.getElem_mem hjl)
          obtain ⟨a, ha⟩ : ∃ a, a = 2 + 5 * j := ⟨_, rfl⟩
          have hlen := rootsW_len (placeL ns b) (frontW M need) rs j (ns.flatMap (nodeW (placeL ns b))) (fun r hr => (goodS_size (HD.out.1.2.2 r hr).1).2) rfl (by omega)
          have hnl := nodesW_len (placeL ns b) ns b
          have hln : (rootsW (placeL ns b) (frontW M need) rs j M (ns.flatMap (nodeW (placeL ns b)))).length = need := by
            rw [HN.out.2] at *
            rw [hlen, ← HD.out.2.2.1, hnl]
            exact HD.out.2.2.2.1.symm
          have hst := root_step (placeL ns b) (frontW M need) (ns.flatMap (nodeW (placeL ns b))) rs j a hjl (fun r hr => (goodS_size (HD.out.1.2.2 r hr).1).2) rfl ha
          rw [← HN.out.2, ← hx] at hst
          have HPr := Lib.hid (fun W (q : PuAt W w3.heap.size s m v (rootsW (placeL ns b) (frontW M need) rs j M (ns.flatMap (nodeW (placeL ns b)))) b need need S (.slice (some ⟨qb, 0, none⟩) (ns.length + 1) cq) (plI ns b)) => putRoot_c W w3.heap.size s m S b need need a b qb cq v _ ns q x x1 x2 (by have := HD.out.2.2.2.1; have := HD.out.2.2.2.2.2; omega) (by rw [hln]; have := HD.out.2.2.2.2.1; have := HD.out.2.2.1; omega) (by rw [hln]; exact HD.out.2.2.2.2.2))
          rw [hst] at HPr
          have HBj := Lib.hid (fun W => ibase_c j (by have := HD.out.2.1; omega) W)
          rw [← ha] at HBj
          obtain ⟨st, to⟩ := x
          unfold Rv.v at HPr
          simp only at hc2 hc3 HPr
          have H0 := Lib.hid (And.intro e1 e2)
          obtain ⟨NN, hNN⟩ : ∃ NN, NN = ns.length + 1 := ⟨_, rfl⟩
          rw [← hNN] at HPr H0 ⊢
          clear hx e1 e2 hS x1 x2 hlen hnl hln hst hww hj ha hjl
          go_wp2_with fail
          obtain ⟨Rb, hRb⟩ : ∃ R, R = wr.heap.size := ⟨_, rfl⟩
          obtain ⟨w12, hw12⟩ : ∃ W, W = wr.alloc (.cells #[.string st, .int .i64 to] 56) := ⟨_, rfl⟩
          have hbk : Bk w12 Rb 56 #[.string st, .int .i64 to] := by rw [hw12, hRb]; exact Bk.new wr _ _
          have b12 : Below wr.heap.size wr w12 := by rw [hw12]; exact Gw.alloc wr _
          rw [← hw12, ← hRb]
          have H12 := Lib.hid (show PuAt w12 w3.heap.size s m v (rootsW (placeL ns b) (frontW M need) rs j M (ns.flatMap (nodeW (placeL ns b)))) b need need S (.slice (some ⟨qb, 0, none⟩) NN cq) (plI ns b) ∧ Below w3.heap.size w3 w12 from ⟨H0.out.1.below b12, H0.out.2.trans (b12.mono H0.out.1.sp.mem.le)⟩)
          have hRn : ¬ (Rb = s ∨ some Rb = v.ownBlock) := by
            rintro (h | h)
            · have h1 := H0.out.1.sp.blk.lt; omega
            · have h1 := (H0.out.1.sp.mem.row.lt Rb h.symm).2; omega
          obtain ⟨c0, c1⟩ := hbk.two
          have hRl := hbk.lt
          clear hbk b12 hw12 hRb hc2 hc3
          refine ien21 _ _ _ m Rb j a st to qb NN cq (fun k => k = s ∨ some k = v.ownBlock) (fun z => PuAt z w3.heap.size s m v (rootsW (placeL ns b) (frontW M need) rs (j + 1) M (ns.flatMap (nodeW (placeL ns b)))) b need need S (.slice (some ⟨qb, 0, none⟩) NN cq) (plI ns b) ∧ Below w3.heap.size w3 z) hRl hRn c0 c1 HBj (fun _ _ h g => ⟨h.1.below g, h.2.trans (g.mono h.1.sp.mem.le)⟩) (Lib.hid (fun W b => (HPr.out W (H12.out.1.below b)).mono fun r' w' h => ⟨_, h.1, im_twokept h.2.2.2, rfl, h.2.1, (H12.out.2.trans (b.mono H12.out.1.sp.mem.le)).trans h.2.2.1⟩)) rfl ?_ ?_ ?_ ?_ ?_
          · rfl
          · rfl
          · rfl
          · rfl
          intro vals w13 hG h12 hcall
          unfold IsV at h12
          simp only [putO, Act.put, List.setIfInBounds_toArray, List.set_cons_zero, List.set_cons_succ, h12]
          have HN13 := Lib.hid hcall.2
          clear hG h12 hcall c0 c1 hRl hRn H12 H0 HPr HBj
          go_wp2_with fail
          go_roundw
          case rel => exact ⟨j + 1, by go_num, by omega, HN13⟩
          case measure => simp [Go.RowKit.intOf]; omega
        · have p1 : ¬ (j : Int) < (M : Int) := by omega
          have hjM : j = rs.length := by have := HN.out.2; omega
          have hra := roots_all (placeL ns b) ns rs need (by have h := HD.out.2.2.2.1; rw [HD.out.2.2.1, HN.out.2] at h; exact h) (by rw [HD.out.2.2.1, HN.out.2])
          rw [hjM, HN.out.2, hra] at e1
          have HWd := Lib.hid (words_c wr w3.heap.size m v (encW ns rs) e1.sp.mem (by have h1 := e1.sp.te; have h2 := hra; have := encW_len ns rs (fun r hr => (goodS_size (HD.out.1.2.2 r hr).1).2); have h5 : need = endL ns (2 + 5 * rs.length) := HNn.out; have := HD.out.2.2.2.2.2; omega))
          have HF := Lib.hid hww
          clear e1 e2 hS hj hjM hra hww
          go_wp2_with fail
          refine Calls.mono HWd.out ?_
          rintro r w14 ⟨A14, c14, rfl, hc14, ho14, b14⟩
          have H14 := Lib.hid (And.intro ho14 b14)
          clear ho14 b14 hc14
          go_wp2_with fail
          rw [HE.out]
          exact .inr ⟨HEr.out.symm, by have h5 : need = endL ns (2 + 5 * rs.length) := HNn.out; have := HD.out.2.2.2.2.2; show endL ns (2 + 5 * rs.length) ≤ 8192; omega, _, rfl, H14.out.1.mono HF.out.size, HF.out.trans (H14.out.2.mono HF.out.size)⟩
  · have e1 : (er != 0) = true := by simpa using he
    have HEn := Lib.hid he
    clear he
    have e3 : errG ⟨A, ca, A2, ca2, ns, rs⟩ = er := by
      unfold errG
      rw [if_neg (by rw [← HEr.out]; exact HEn.out), ← HEr.out]
    have HE3 := Lib.hid e3
    clear e3
    go_wp2_with fail
    rw [HE.out]
    exact .inl ⟨by rw [HE3.out]; exact HEn.out, by rw [HE3.out]; rfl, H2.out.2⟩
end Go.Proofs.Ytkkjnahjmomjgaa
/- slices.Equal at numbers and roots. Conditions: lengths. -/
namespace Go.Proofs.Ytkkjnahjmomjgaa
set_option linter.unusedVariables false
set_option linter.unusedSimpArgs false
open Go.RowKit
set_option maxHeartbeats 1000000
set_option maxRecDepth 100000
theorem eqi_r (Q : Exit → Act → World → Prop) (a0 : Act) (w : World) (a b : Addr) (N c c2 i : Nat) (x y : Int) (r : Bool) (ha : a.block < w.heap.size) (hb : b.block < w.heap.size) (h1 : w.cell? (a.add i) = some (.int .i64 x)) (h2 : w.cell? (b.add i) = some (.int .i64 y)) (hr : (x != y) = r) (p1 : (0 : Int) ≤ (i : Int)) (p2 : (i : Int) < (N : Int)) (hsz : a0.tmps.size = 26) (sl0 : a0.tmps.getD 0 undef = .slice (some a) N c) (sl1 : a0.tmps.getD 1 undef = .slice (some b) N c2) (sl5 : a0.tmps.getD 5 undef = .int .i64 i)
    (fin : ∀ (vals : Nat → Value) (w1 : World), Below w.heap.size w w1 → (IsV (.bool r)) (vals 8) w1 → Q .normal (putD vals [16, 17, 18, 19, 20, 21, 22, 23, 24] 0 a0) w1) :
    (Code.region 6 (regIn Try.f78 6) true).wp Try.prog Q a0 w := by
  refine region_by (G := fun w w1 => Below w.heap.size w w1) [IsV (.slice (some a) N c),
    IsV (.int .i64 i),
    IsV (.pointer (some (a.add i))),
    IsV (.int .i64 x),
    IsV (.slice (some b) N c2),
    IsV (.int .i64 i),
    IsV (.pointer (some (b.add i))),
    IsV (.int .i64 y),
    IsV (.bool r)]
    [16, 17, 18, 19, 20, 21, 22, 23, 24] (by kernel_rfl) (Gw.drew _) Gw.trans (by rw [hsz]; kernel_rfl) (by kernel_rfl) ?_ ?_ ?_
  · intro f hf
    simp only [List.mem_cons, List.not_mem_nil, or_false] at hf
    rcases hf with rfl | rfl | rfl | rfl | rfl | rfl | rfl | rfl | rfl <;> intro v a b h g <;> first | exact IsV.mono h
  · refine ⟨?_, ?_, ?_, ?_, ?_, ?_, ?_, ?_, ?_, trivial⟩
    · exact owes_mv 0 (by kernel_rfl) (by kernel_rfl) (by kernel_rfl) sl0 (fun _ => rfl)
    · exact owes_mv 5 (by kernel_rfl) (by kernel_rfl) (by kernel_rfl) sl5 (fun _ => rfl)
    · refine owes_v (Go.Op.indexAddr 49 (Go.Operand.tmp 16) (Go.Operand.tmp 17)) 0 [0, 1] (by kernel_rfl) (by kernel_rfl) (by kernel_rfl) rfl fun vals w1 ρ hG hF hρ hcst hfun => ?_
      have e16 : ρ (.tmp 16) = .slice (some a) N c := ((hρ 16).trans (slotJ [0, 1] (by rw [hsz]; decide) (by kernel_rfl))).trans (hF 0 (by decide))
      have e17 : ρ (.tmp 17) = .int .i64 i := ((hρ 17).trans (slotJ [0, 1] (by rw [hsz]; decide) (by kernel_rfl))).trans (hF 1 (by decide))
      clear hρ hF hcst hfun sl0 sl1 sl5 fin
      exact opv_val (by go_simp <;> rfl) ⟨gw_self _, rfl⟩
    · refine owes_v (Go.Op.load 3 (Go.Operand.tmp 18)) 3 [2] (by kernel_rfl) (by kernel_rfl) (by kernel_rfl) rfl fun vals w1 ρ hG hF hρ hcst hfun => ?_
      have e18 : ρ (.tmp 18) = .pointer (some (a.add i)) := ((hρ 18).trans (slotJ [2] (by rw [hsz]; decide) (by kernel_rfl))).trans (hF 2 (by decide))
      have k := (hG.cell (p := a.add i) (by rw [add_block]; exact ha)).trans h1
      clear hρ hF hcst hfun sl0 sl1 sl5 fin
      exact opv_val (by go_simp <;> rfl) ⟨gw_self _, rfl⟩
    · exact owes_mv 1 (by kernel_rfl) (by kernel_rfl) (by kernel_rfl) sl1 (fun _ => rfl)
    · exact owes_mv 5 (by kernel_rfl) (by kernel_rfl) (by kernel_rfl) sl5 (fun _ => rfl)
    · refine owes_v (Go.Op.indexAddr 49 (Go.Operand.tmp 20) (Go.Operand.tmp 21)) 0 [4, 5] (by kernel_rfl) (by kernel_rfl) (by kernel_rfl) rfl fun vals w1 ρ hG hF hρ hcst hfun => ?_
      have e20 : ρ (.tmp 20) = .slice (some b) N c2 := ((hρ 20).trans (slotJ [4, 5] (by rw [hsz]; decide) (by kernel_rfl))).trans (hF 4 (by decide))
      have e21 : ρ (.tmp 21) = .int .i64 i := ((hρ 21).trans (slotJ [4, 5] (by rw [hsz]; decide) (by kernel_rfl))).trans (hF 5 (by decide))
      clear hρ hF hcst hfun sl0 sl1 sl5 fin
      exact opv_val (by go_simp <;> rfl) ⟨gw_self _, rfl⟩
    · refine owes_v (Go.Op.load 3 (Go.Operand.tmp 22)) 3 [6] (by kernel_rfl) (by kernel_rfl) (by kernel_rfl) rfl fun vals w1 ρ hG hF hρ hcst hfun => ?_
      have e22 : ρ (.tmp 22) = .pointer (some (b.add i)) := ((hρ 22).trans (slotJ [6] (by rw [hsz]; decide) (by kernel_rfl))).trans (hF 6 (by decide))
      have k := (hG.cell (p := b.add i) (by rw [add_block]; exact hb)).trans h2
      clear hρ hF hcst hfun sl0 sl1 sl5 fin
      exact opv_val (by go_simp <;> rfl) ⟨gw_self _, rfl⟩
    · refine owes_v (Go.Op.binOp Go.BinOp.neq 3 (Go.Operand.tmp 19) (Go.Operand.tmp 23) 3) 4 [3, 7] (by kernel_rfl) (by kernel_rfl) (by kernel_rfl) rfl fun vals w1 ρ hG hF hρ hcst hfun => ?_
      have e19 : ρ (.tmp 19) = .int .i64 x := ((hρ 19).trans (slotJ [3, 7] (by rw [hsz]; decide) (by kernel_rfl))).trans (hF 3 (by decide))
      have e23 : ρ (.tmp 23) = .int .i64 y := ((hρ 23).trans (slotJ [3, 7] (by rw [hsz]; decide) (by kernel_rfl))).trans (hF 7 (by decide))
      clear hρ hF hcst hfun sl0 sl1 sl5 fin
      exact opv_val (by go_simp <;> first | rfl | exact hr | rw [hr]) ⟨gw_self _, rfl⟩
  · intro vals w1 hG hF
    exact fin vals w1 hG (hF 8 (by decide +kernel))
theorem take_eq_succ {α : Type} {xs ys : List α} {k : Nat} (h1 : k < xs.length) (h2 : k < ys.length) (h : xs.take k = ys.take k) (e : xs[k] = ys[k]) : xs.take (k + 1) = ys.take (k + 1) := by
  rw [List.take_succ_eq_append_getElem h1, List.take_succ_eq_append_getElem h2, h, e]
theorem eqi_c (w : World) (A A2 : Option Addr) (c c2 : Nat) (xs ys : List Int) (hr : Rd iV w w.heap.size A xs) (hr2 : Rd iV w w.heap.size A2 ys) (hl : xs.length ≤ 1000000) : Calls Try.prog 78 #[.slice A xs.length c, .slice A2 ys.length c2] w (RetP (.bool (decide (xs = ys))) w) := by
  obtain ⟨N, hN⟩ : ∃ N, N = xs.length := ⟨_, rfl⟩
  obtain ⟨M, hM⟩ : ∃ M, M = ys.length := ⟨_, rfl⟩
  have HN := Lib.hid (And.intro hN hM)
  have HR := Lib.hid hr
  have HR2 := Lib.hid hr2
  have q3 : (N : Int) ≤ 1000000 := by omega
  rw [← hN, ← hM]
  by_cases he : N = M
  · subst he
    have HNe := Lib.hid (And.intro hN hM)
    clear hN hM hr hr2 hl HN
    obtain ⟨R, hRR⟩ : ∃ R, R = decide (xs = ys) := ⟨_, rfl⟩
    have HRR := Lib.hid hRR
    rw [← hRR]
    clear hRR
    go_enter Try.func78, Try.ntmps78
    go_wp2_with fail
    go_loopw [13] (fun i wr => ∃ k : Nat, k ≤ N ∧ i = .int .i64 k ∧ Hid (xs.take k = ys.take k) ∧ Below w.heap.size w wr) (fun i _ => N - (Go.RowKit.intOf i).toNat)
    case atStart => exact ⟨0, by omega, rfl, Lib.hid rfl, Below.refl _ _⟩
    case round =>
      obtain ⟨k, hk, rfl, ht, hB⟩ := hrel
      by_cases hlt : k < N
      · have p1 : (0 : Int) ≤ (k : Int) := by omega
        have p2 : (k : Int) < (N : Int) := by omega
        have h1 : k < xs.length := by rw [← HNe.out.1]; exact hlt
        have h2 : k < ys.length := by rw [← HNe.out.2]; exact hlt
        obtain ⟨ad, rfl, hadb, hcl⟩ := (HR.out.below hB) k h1
        obtain ⟨ad2, rfl, hadb2, hcl2⟩ := (HR2.out.below hB) k h2
        obtain ⟨x, hx⟩ : ∃ y, y = xs[k] := ⟨_, rfl⟩
        obtain ⟨y, hy⟩ : ∃ y, y = ys[k] := ⟨_, rfl⟩
        rw [← hx] at hcl
        rw [← hy] at hcl2
        unfold iV at hcl hcl2
        have hsz := hB.size
        have HS := Lib.hid (fun Q a0 r hr => eqi_r Q a0 wr ad ad2 N c c2 k x y r (by omega) (by omega) hcl hcl2 hr p1 p2)
        by_cases hxy : x = y
        · have hrf : (x != y) = false := by simp [hxy]
          have HT := Lib.hid (take_eq_succ h1 h2 ht.out (by rw [← hx, ← hy, hxy]))
          clear hx hy hadb hadb2 hcl hcl2 h1 h2 hsz hxy
          go_wp2_with fail
          refine HS.out _ _ false hrf rfl rfl rfl rfl ?_
          intro vals w4 hG h24
          unfold IsV at h24
          simp only [putD, Act.put, List.setIfInBounds_toArray, List.set_cons_zero, List.set_cons_succ, h24]
          have HB4 := Lib.hid (hB.trans (hG.mono hB.size))
          clear h24 hG HS hrf
          go_wp2_with fail
          go_roundw
          case rel => exact ⟨k + 1, by omega, by go_num, HT, HB4.out⟩
          case measure => (first | (simp [Go.RowKit.intOf]; done) | (simp [Go.RowKit.intOf]; omega))
        · have hrf : (x != y) = true := by simp [hxy]
          have hne : R = false := by
            rw [HRR.out, decide_eq_false_iff_not]
            intro e
            subst e
            exact hxy (hx.trans hy.symm)
          have HNE := Lib.hid hne
          clear hx hy hadb hadb2 hcl hcl2 h1 h2 hsz hxy hne
          go_wp2_with fail
          refine HS.out _ _ true hrf rfl rfl rfl rfl ?_
          intro vals w4 hG h24
          unfold IsV at h24
          simp only [putD, Act.put, List.setIfInBounds_toArray, List.set_cons_zero, List.set_cons_succ, h24]
          have HB4 := Lib.hid (hB.trans (hG.mono hB.size))
          clear h24 hG HS hrf
          go_wp2_with fail
          go_ret
          rw [HNE.out]
          exact ⟨rfl, HB4.out⟩
      · have hre : R = true := by
          rw [HRR.out, decide_eq_true_iff]
          have := ht.out
          rwa [show k = xs.length by rw [← HNe.out.1]; omega, List.take_length, show xs.length = ys.length by rw [← HNe.out.1, HNe.out.2], List.take_length] at this
        have HRE := Lib.hid hre
        clear hre
        go_wp2_with fail
        go_ret
        rw [HRE.out]
        exact ⟨rfl, hB⟩
  · have hne : decide (xs = ys) = false := by
      rw [decide_eq_false_iff_not]
      intro e
      exact he (by rw [hN, hM, e])
    rw [hne]
    have t1 : ((N : Int) != (M : Int)) = true := by simp; omega
    clear hN hM hr hr2 hl he hne HN HR HR2
    go_enter Try.func78, Try.ntmps78
    go_wp2_with fail
    go_ret
    exact ⟨rfl, Below.refl _ _⟩
end Go.Proofs.Ytkkjnahjmomjgaa
/- slices.Equal at words; loamlaw23.words. Conditions: lengths. -/
namespace Go.Proofs.Ytkkjnahjmomjgaa
set_option linter.unusedVariables false
set_option linter.unusedSimpArgs false
open Go.RowKit
set_option maxHeartbeats 1000000
set_option maxRecDepth 100000
theorem equ_r (Q : Exit → Act → World → Prop) (a0 : Act) (w : World) (a b : Addr) (N c c2 i : Nat) (x y : BitVec 64) (r : Bool) (ha : a.block < w.heap.size) (hb : b.block < w.heap.size) (h1 : w.cell? (a.add i) = some (.int .u64 (U64 x))) (h2 : w.cell? (b.add i) = some (.int .u64 (U64 y))) (hr : (U64 x != U64 y) = r) (p1 : (0 : Int) ≤ (i : Int)) (p2 : (i : Int) < (N : Int)) (hsz : a0.tmps.size = 26) (sl0 : a0.tmps.getD 0 undef = .slice (some a) N c) (sl1 : a0.tmps.getD 1 undef = .slice (some b) N c2) (sl5 : a0.tmps.getD 5 undef = .int .i64 i)
    (fin : ∀ (vals : Nat → Value) (w1 : World), Below w.heap.size w w1 → (IsV (.bool r)) (vals 8) w1 → Q .normal (putD vals [16, 17, 18, 19, 20, 21, 22, 23, 24] 0 a0) w1) :
    (Code.region 6 (regIn Try.f39 6) true).wp Try.prog Q a0 w := by
  refine region_by (G := fun w w1 => Below w.heap.size w w1) [IsV (.slice (some a) N c),
    IsV (.int .i64 i),
    IsV (.pointer (some (a.add i))),
    IsV (.int .u64 (U64 x)),
    IsV (.slice (some b) N c2),
    IsV (.int .i64 i),
    IsV (.pointer (some (b.add i))),
    IsV (.int .u64 (U64 y)),
    IsV (.bool r)]
    [16, 17, 18, 19, 20, 21, 22, 23, 24] (by kernel_rfl) (Gw.drew _) Gw.trans (by rw [hsz]; kernel_rfl) (by kernel_rfl) ?_ ?_ ?_
  · intro f hf
    simp only [List.mem_cons, List.not_mem_nil, or_false] at hf
    rcases hf with rfl | rfl | rfl | rfl | rfl | rfl | rfl | rfl | rfl <;> intro v a b h g <;> first | exact IsV.mono h
  · refine ⟨?_, ?_, ?_, ?_, ?_, ?_, ?_, ?_, ?_, trivial⟩
    · exact owes_mv 0 (by kernel_rfl) (by kernel_rfl) (by kernel_rfl) sl0 (fun _ => rfl)
    · exact owes_mv 5 (by kernel_rfl) (by kernel_rfl) (by kernel_rfl) sl5 (fun _ => rfl)
    · refine owes_v (Go.Op.indexAddr 33 (Go.Operand.tmp 16) (Go.Operand.tmp 17)) 0 [0, 1] (by kernel_rfl) (by kernel_rfl) (by kernel_rfl) rfl fun vals w1 ρ hG hF hρ hcst hfun => ?_
      have e16 : ρ (.tmp 16) = .slice (some a) N c := ((hρ 16).trans (slotJ [0, 1] (by rw [hsz]; decide) (by kernel_rfl))).trans (hF 0 (by decide))
      have e17 : ρ (.tmp 17) = .int .i64 i := ((hρ 17).trans (slotJ [0, 1] (by rw [hsz]; decide) (by kernel_rfl))).trans (hF 1 (by decide))
      clear hρ hF hcst hfun sl0 sl1 sl5 fin
      exact opv_val (by go_simp <;> rfl) ⟨gw_self _, rfl⟩
    · refine owes_v (Go.Op.load 57 (Go.Operand.tmp 18)) 57 [2] (by kernel_rfl) (by kernel_rfl) (by kernel_rfl) rfl fun vals w1 ρ hG hF hρ hcst hfun => ?_
      have e18 : ρ (.tmp 18) = .pointer (some (a.add i)) := ((hρ 18).trans (slotJ [2] (by rw [hsz]; decide) (by kernel_rfl))).trans (hF 2 (by decide))
      have k := (hG.cell (p := a.add i) (by rw [add_block]; exact ha)).trans h1
      clear hρ hF hcst hfun sl0 sl1 sl5 fin
      exact opv_val (by go_simp <;> rfl) ⟨gw_self _, rfl⟩
    · exact owes_mv 1 (by kernel_rfl) (by kernel_rfl) (by kernel_rfl) sl1 (fun _ => rfl)
    · exact owes_mv 5 (by kernel_rfl) (by kernel_rfl) (by kernel_rfl) sl5 (fun _ => rfl)
    · refine owes_v (Go.Op.indexAddr 33 (Go.Operand.tmp 20) (Go.Operand.tmp 21)) 0 [4, 5] (by kernel_rfl) (by kernel_rfl) (by kernel_rfl) rfl fun vals w1 ρ hG hF hρ hcst hfun => ?_
      have e20 : ρ (.tmp 20) = .slice (some b) N c2 := ((hρ 20).trans (slotJ [4, 5] (by rw [hsz]; decide) (by kernel_rfl))).trans (hF 4 (by decide))
      have e21 : ρ (.tmp 21) = .int .i64 i := ((hρ 21).trans (slotJ [4, 5] (by rw [hsz]; decide) (by kernel_rfl))).trans (hF 5 (by decide))
      clear hρ hF hcst hfun sl0 sl1 sl5 fin
      exact opv_val (by go_simp <;> rfl) ⟨gw_self _, rfl⟩
    · refine owes_v (Go.Op.load 57 (Go.Operand.tmp 22)) 57 [6] (by kernel_rfl) (by kernel_rfl) (by kernel_rfl) rfl fun vals w1 ρ hG hF hρ hcst hfun => ?_
      have e22 : ρ (.tmp 22) = .pointer (some (b.add i)) := ((hρ 22).trans (slotJ [6] (by rw [hsz]; decide) (by kernel_rfl))).trans (hF 6 (by decide))
      have k := (hG.cell (p := b.add i) (by rw [add_block]; exact hb)).trans h2
      clear hρ hF hcst hfun sl0 sl1 sl5 fin
      exact opv_val (by go_simp <;> rfl) ⟨gw_self _, rfl⟩
    · refine owes_v (Go.Op.binOp Go.BinOp.neq 57 (Go.Operand.tmp 19) (Go.Operand.tmp 23) 57) 4 [3, 7] (by kernel_rfl) (by kernel_rfl) (by kernel_rfl) rfl fun vals w1 ρ hG hF hρ hcst hfun => ?_
      have e19 : ρ (.tmp 19) = .int .u64 (U64 x) := ((hρ 19).trans (slotJ [3, 7] (by rw [hsz]; decide) (by kernel_rfl))).trans (hF 3 (by decide))
      have e23 : ρ (.tmp 23) = .int .u64 (U64 y) := ((hρ 23).trans (slotJ [3, 7] (by rw [hsz]; decide) (by kernel_rfl))).trans (hF 7 (by decide))
      clear hρ hF hcst hfun sl0 sl1 sl5 fin
      exact opv_val (by go_simp <;> first | rfl | exact hr | rw [hr]) ⟨gw_self _, rfl⟩
  · intro vals w1 hG hF
    exact fin vals w1 hG (hF 8 (by decide +kernel))
theorem equ_c (w : World) (A A2 : Option Addr) (c c2 : Nat) (xs ys : List (BitVec 64)) (hr : Rd u64v w w.heap.size A xs) (hr2 : Rd u64v w w.heap.size A2 ys) (hl : xs.length ≤ 1000000) : Calls Try.prog 39 #[.slice A xs.length c, .slice A2 ys.length c2] w (RetP (.bool (decide (xs = ys))) w) := by
  obtain ⟨N, hN⟩ : ∃ N, N = xs.length := ⟨_, rfl⟩
  obtain ⟨M, hM⟩ : ∃ M, M = ys.length := ⟨_, rfl⟩
  have HN := Lib.hid (And.intro hN hM)
  have HR := Lib.hid hr
  have HR2 := Lib.hid hr2
  have q3 : (N : Int) ≤ 1000000 := by omega
  rw [← hN, ← hM]
  by_cases he : N = M
  · subst he
    have HNe := Lib.hid (And.intro hN hM)
    clear hN hM hr hr2 hl HN
    obtain ⟨R, hRR⟩ : ∃ R, R = decide (xs = ys) := ⟨_, rfl⟩
    have HRR := Lib.hid hRR
    rw [← hRR]
    clear hRR
    go_enter Try.func39, Try.ntmps39
    go_wp2_with fail
    go_loopw [13] (fun i wr => ∃ k : Nat, k ≤ N ∧ i = .int .i64 k ∧ Hid (xs.take k = ys.take k) ∧ Below w.heap.size w wr) (fun i _ => N - (Go.RowKit.intOf i).toNat)
    case atStart => exact ⟨0, by omega, rfl, Lib.hid rfl, Below.refl _ _⟩
    case round =>
      obtain ⟨k, hk, rfl, ht, hB⟩ := hrel
      by_cases hlt : k < N
      · have p1 : (0 : Int) ≤ (k : Int) := by omega
        have p2 : (k : Int) < (N : Int) := by omega
        have h1 : k < xs.length := by rw [← HNe.out.1]; exact hlt
        have h2 : k < ys.length := by rw [← HNe.out.2]; exact hlt
        obtain ⟨ad, rfl, hadb, hcl⟩ := (HR.out.below hB) k h1
        obtain ⟨ad2, rfl, hadb2, hcl2⟩ := (HR2.out.below hB) k h2
        obtain ⟨x, hx⟩ : ∃ y, y = xs[k] := ⟨_, rfl⟩
        obtain ⟨y, hy⟩ : ∃ y, y = ys[k] := ⟨_, rfl⟩
        rw [← hx] at hcl
        rw [← hy] at hcl2
        unfold u64v at hcl hcl2
        have hsz := hB.size
        have HS := Lib.hid (fun Q a0 r hr => equ_r Q a0 wr ad ad2 N c c2 k x y r (by omega) (by omega) hcl hcl2 hr p1 p2)
        by_cases hxy : x = y
        · have hrf : (U64 x != U64 y) = false := by rw [hxy]; simp
          have HT := Lib.hid (take_eq_succ h1 h2 ht.out (by rw [← hx, ← hy, hxy]))
          clear hx hy hadb hadb2 hcl hcl2 h1 h2 hsz hxy
          go_wp2_with fail
          refine HS.out _ _ false hrf rfl rfl rfl rfl ?_
          intro vals w4 hG h24
          unfold IsV at h24
          simp only [putD, Act.put, List.setIfInBounds_toArray, List.set_cons_zero, List.set_cons_succ, h24]
          have HB4 := Lib.hid (hB.trans (hG.mono hB.size))
          clear h24 hG HS hrf
          go_wp2_with fail
          go_roundw
          case rel => exact ⟨k + 1, by omega, by go_num, HT, HB4.out⟩
          case measure => (first | (simp [Go.RowKit.intOf]; done) | (simp [Go.RowKit.intOf]; omega))
        · have hrf : (U64 x != U64 y) = true := by rw [bne_iff_ne]; exact fun e => hxy (U64_inj e)
          have hne : R = false := by
            rw [HRR.out, decide_eq_false_iff_not]
            intro e
            subst e
            exact hxy (hx.trans hy.symm)
          have HNE := Lib.hid hne
          clear hx hy hadb hadb2 hcl hcl2 h1 h2 hsz hxy hne
          go_wp2_with fail
          refine HS.out _ _ true hrf rfl rfl rfl rfl ?_
          intro vals w4 hG h24
          unfold IsV at h24
          simp only [putD, Act.put, List.setIfInBounds_toArray, List.set_cons_zero, List.set_cons_succ, h24]
          have HB4 := Lib.hid (hB.trans (hG.mono hB.size))
          clear h24 hG HS hrf
          go_wp2_with fail
          go_ret
          rw [HNE.out]
          exact ⟨rfl, HB4.out⟩
      · have hre : R = true := by
          rw [HRR.out, decide_eq_true_iff]
          have := ht.out
          rwa [show k = xs.length by rw [← HNe.out.1]; omega, List.take_length, show xs.length = ys.length by rw [← HNe.out.1, HNe.out.2], List.take_length] at this
        have HRE := Lib.hid hre
        clear hre
        go_wp2_with fail
        go_ret
        rw [HRE.out]
        exact ⟨rfl, hB⟩
  · have hne : decide (xs = ys) = false := by
      rw [decide_eq_false_iff_not]
      intro e
      exact he (by rw [hN, hM, e])
    rw [hne]
    have t1 : ((N : Int) != (M : Int)) = true := by simp; omega
    clear hN hM hr hr2 hl he hne HN HR HR2
    go_enter Try.func39, Try.ntmps39
    go_wp2_with fail
    go_ret
    exact ⟨rfl, Below.refl _ _⟩
theorem wd6 (Q : Exit → Act → World → Prop) (a0 : Act) (w : World) (a b : Addr) (N c c2 i : Nat) (x y : BitVec 64) (r : Bool) (ha : a.block < w.heap.size) (hb : b.block < w.heap.size) (h1 : w.cell? (a.add i) = some (.int .u64 (U64 x))) (h2 : w.cell? (b.add i) = some (.int .u64 (U64 y))) (hr : (U64 x != U64 y) = r) (p1 : (0 : Int) ≤ (i : Int)) (p2 : (i : Int) < (N : Int)) (hsz : a0.tmps.size = 26) (sl0 : a0.tmps.getD 0 undef = .slice (some a) N c) (sl1 : a0.tmps.getD 1 undef = .slice (some b) N c2) (sl5 : a0.tmps.getD 5 undef = .int .i64 i)
    (fin : ∀ (vals : Nat → Value) (w1 : World), Below w.heap.size w w1 → (IsV (.bool r)) (vals 8) w1 → Q .normal (putD vals [17, 18, 19, 20, 21, 22, 23, 24, 25] 0 a0) w1) :
    (Code.region 6 (regIn Try.f12 6) true).wp Try.prog Q a0 w := by
  refine region_by (G := fun w w1 => Below w.heap.size w w1) [IsV (.slice (some a) N c),
    IsV (.int .i64 i),
    IsV (.pointer (some (a.add i))),
    IsV (.int .u64 (U64 x)),
    IsV (.slice (some b) N c2),
    IsV (.int .i64 i),
    IsV (.pointer (some (b.add i))),
    IsV (.int .u64 (U64 y)),
    IsV (.bool r)]
    [17, 18, 19, 20, 21, 22, 23, 24, 25] (by kernel_rfl) (Gw.drew _) Gw.trans (by rw [hsz]; kernel_rfl) (by kernel_rfl) ?_ ?_ ?_
  · intro f hf
    simp only [List.mem_cons, List.not_mem_nil, or_false] at hf
    rcases hf with rfl | rfl | rfl | rfl | rfl | rfl | rfl | rfl | rfl <;> intro v a b h g <;> first | exact IsV.mono h
  · refine ⟨?_, ?_, ?_, ?_, ?_, ?_, ?_, ?_, ?_, trivial⟩
    · exact owes_mv 0 (by kernel_rfl) (by kernel_rfl) (by kernel_rfl) sl0 (fun _ => rfl)
    · exact owes_mv 5 (by kernel_rfl) (by kernel_rfl) (by kernel_rfl) sl5 (fun _ => rfl)
    · refine owes_v (Go.Op.indexAddr 33 (Go.Operand.tmp 17) (Go.Operand.tmp 18)) 0 [0, 1] (by kernel_rfl) (by kernel_rfl) (by kernel_rfl) rfl fun vals w1 ρ hG hF hρ hcst hfun => ?_
      have e17 : ρ (.tmp 17) = .slice (some a) N c := ((hρ 17).trans (slotJ [0, 1] (by rw [hsz]; decide) (by kernel_rfl))).trans (hF 0 (by decide))
      have e18 : ρ (.tmp 18) = .int .i64 i := ((hρ 18).trans (slotJ [0, 1] (by rw [hsz]; decide) (by kernel_rfl))).trans (hF 1 (by decide))
      clear hρ hF hcst hfun sl0 sl1 sl5 fin
      exact opv_val (by go_simp <;> rfl) ⟨gw_self _, rfl⟩
    · refine owes_v (Go.Op.load 57 (Go.Operand.tmp 19)) 57 [2] (by kernel_rfl) (by kernel_rfl) (by kernel_rfl) rfl fun vals w1 ρ hG hF hρ hcst hfun => ?_
      have e19 : ρ (.tmp 19) = .pointer (some (a.add i)) := ((hρ 19).trans (slotJ [2] (by rw [hsz]; decide) (by kernel_rfl))).trans (hF 2 (by decide))
      have k := (hG.cell (p := a.add i) (by rw [add_block]; exact ha)).trans h1
      clear hρ hF hcst hfun sl0 sl1 sl5 fin
      exact opv_val (by go_simp <;> rfl) ⟨gw_self _, rfl⟩
    · exact owes_mv 1 (by kernel_rfl) (by kernel_rfl) (by kernel_rfl) sl1 (fun _ => rfl)
    · exact owes_mv 5 (by kernel_rfl) (by kernel_rfl) (by kernel_rfl) sl5 (fun _ => rfl)
    · refine owes_v (Go.Op.indexAddr 33 (Go.Operand.tmp 21) (Go.Operand.tmp 22)) 0 [4, 5] (by kernel_rfl) (by kernel_rfl) (by kernel_rfl) rfl fun vals w1 ρ hG hF hρ hcst hfun => ?_
      have e21 : ρ (.tmp 21) = .slice (some b) N c2 := ((hρ 21).trans (slotJ [4, 5] (by rw [hsz]; decide) (by kernel_rfl))).trans (hF 4 (by decide))
      have e22 : ρ (.tmp 22) = .int .i64 i := ((hρ 22).trans (slotJ [4, 5] (by rw [hsz]; decide) (by kernel_rfl))).trans (hF 5 (by decide))
      clear hρ hF hcst hfun sl0 sl1 sl5 fin
      exact opv_val (by go_simp <;> rfl) ⟨gw_self _, rfl⟩
    · refine owes_v (Go.Op.load 57 (Go.Operand.tmp 23)) 57 [6] (by kernel_rfl) (by kernel_rfl) (by kernel_rfl) rfl fun vals w1 ρ hG hF hρ hcst hfun => ?_
      have e23 : ρ (.tmp 23) = .pointer (some (b.add i)) := ((hρ 23).trans (slotJ [6] (by rw [hsz]; decide) (by kernel_rfl))).trans (hF 6 (by decide))
      have k := (hG.cell (p := b.add i) (by rw [add_block]; exact hb)).trans h2
      clear hρ hF hcst hfun sl0 sl1 sl5 fin
      exact opv_val (by go_simp <;> rfl) ⟨gw_self _, rfl⟩
    · refine owes_v (Go.Op.binOp Go.BinOp.neq 57 (Go.Operand.tmp 20) (Go.Operand.tmp 24) 57) 4 [3, 7] (by kernel_rfl) (by kernel_rfl) (by kernel_rfl) rfl fun vals w1 ρ hG hF hρ hcst hfun => ?_
      have e20 : ρ (.tmp 20) = .int .u64 (U64 x) := ((hρ 20).trans (slotJ [3, 7] (by rw [hsz]; decide) (by kernel_rfl))).trans (hF 3 (by decide))
      have e24 : ρ (.tmp 24) = .int .u64 (U64 y) := ((hρ 24).trans (slotJ [3, 7] (by rw [hsz]; decide) (by kernel_rfl))).trans (hF 7 (by decide))
      clear hρ hF hcst hfun sl0 sl1 sl5 fin
      exact opv_val (by go_simp <;> first | rfl | exact hr | rw [hr]) ⟨gw_self _, rfl⟩
  · intro vals w1 hG hF
    exact fin vals w1 hG (hF 8 (by decide +kernel))
theorem words23_c (w : World) (A A2 : Option Addr) (c c2 : Nat) (xs ys : List (BitVec 64)) (hr : Rd u64v w w.heap.size A xs) (hr2 : Rd u64v w w.heap.size A2 ys) (hl : xs.length ≤ 1000000) (hl2 : ys.length ≤ 1000000) : Calls Try.prog 12 #[.slice A xs.length c, .slice A2 ys.length c2] w (RetP (.bool (decide (xs = ys))) w) := by
  obtain ⟨N, hN⟩ : ∃ N, N = xs.length := ⟨_, rfl⟩
  obtain ⟨M, hM⟩ : ∃ M, M = ys.length := ⟨_, rfl⟩
  have HR := Lib.hid hr
  have HR2 := Lib.hid hr2
  have q3 : (N : Int) ≤ 1000000 := by omega
  have q4 : (M : Int) ≤ 1000000 := by omega
  rw [← hN, ← hM]
  by_cases he : N = M
  · subst he
    have HNe := Lib.hid (And.intro hN hM)
    obtain ⟨R, hRR⟩ : ∃ R, R = decide (xs = ys) := ⟨_, rfl⟩
    have HRR := Lib.hid hRR
    rw [← hRR]
    clear hRR hN hM hr hr2 hl hl2
    go_enter Try.func12, Try.ntmps12
    go_wp2_with fail
    go_loopw [5] (fun i wr => ∃ k : Nat, k ≤ N ∧ i = .int .i64 k ∧ Hid (xs.take k = ys.take k) ∧ Below w.heap.size w wr) (fun i _ => N - (Go.RowKit.intOf i).toNat)
    case atStart => exact ⟨0, by omega, rfl, Lib.hid rfl, Below.refl _ _⟩
    case round =>
      obtain ⟨k, hk, rfl, ht, hB⟩ := hrel
      by_cases hlt : k < N
      · have p1 : (0 : Int) ≤ (k : Int) := by omega
        have p2 : (k : Int) < (N : Int) := by omega
        have h1 : k < xs.length := by rw [← HNe.out.1]; exact hlt
        have h2 : k < ys.length := by rw [← HNe.out.2]; exact hlt
        obtain ⟨ad, rfl, hadb, hcl⟩ := (HR.out.below hB) k h1
        obtain ⟨ad2, rfl, hadb2, hcl2⟩ := (HR2.out.below hB) k h2
        obtain ⟨x, hx⟩ : ∃ y, y = xs[k] := ⟨_, rfl⟩
        obtain ⟨y, hy⟩ : ∃ y, y = ys[k] := ⟨_, rfl⟩
        rw [← hx] at hcl
        rw [← hy] at hcl2
        unfold u64v at hcl hcl2
        have hsz := hB.size
        have HS := Lib.hid (fun Q a0 r hr => wd6 Q a0 wr ad ad2 N c c2 k x y r (by omega) (by omega) hcl hcl2 hr p1 p2)
        by_cases hxy : x = y
        · have hrf : (U64 x != U64 y) = false := by rw [hxy]; simp
          have HT := Lib.hid (take_eq_succ h1 h2 ht.out (by rw [← hx, ← hy, hxy]))
          clear hx hy hadb hadb2 hcl hcl2 h1 h2 hsz hxy
          go_wp2_with fail
          refine HS.out _ _ false hrf rfl rfl rfl rfl ?_
          intro vals w4 hG h25
          unfold IsV at h25
          simp only [putD, Act.put, List.setIfInBounds_toArray, List.set_cons_zero, List.set_cons_succ, h25]
          have HB4 := Lib.hid (hB.trans (hG.mono hB.size))
          clear h25 hG HS hrf
          go_wp2_with fail
          go_roundw
          case rel => exact ⟨k + 1, by omega, by go_num, HT, HB4.out⟩
          case measure => (first | (simp [Go.RowKit.intOf]; done) | (simp [Go.RowKit.intOf]; omega))
        · have hrf : (U64 x != U64 y) = true := by rw [bne_iff_ne]; exact fun e => hxy (U64_inj e)
          have hne : R = false := by
            rw [HRR.out, decide_eq_false_iff_not]
            intro e
            subst e
            exact hxy (hx.trans hy.symm)
          have HNE := Lib.hid hne
          clear hx hy hadb hadb2 hcl hcl2 h1 h2 hsz hxy hne
          go_wp2_with fail
          refine HS.out _ _ true hrf rfl rfl rfl rfl ?_
          intro vals w4 hG h25
          unfold IsV at h25
          simp only [putD, Act.put, List.setIfInBounds_toArray, List.set_cons_zero, List.set_cons_succ, h25]
          have HB4 := Lib.hid (hB.trans (hG.mono hB.size))
          clear h25 hG HS hrf
          go_wp2_with fail
          go_ret
          rw [HNE.out]
          exact ⟨rfl, HB4.out⟩
      · have hre : R = true := by
          rw [HRR.out, decide_eq_true_iff]
          have := ht.out
          rwa [show k = xs.length by rw [← HNe.out.1]; omega, List.take_length, show xs.length = ys.length by rw [← HNe.out.1, HNe.out.2], List.take_length] at this
        have HRE := Lib.hid hre
        clear hre
        go_wp2_with fail
        go_ret
        rw [HRE.out]
        exact ⟨rfl, hB⟩
  · have hne : decide (xs = ys) = false := by
      rw [decide_eq_false_iff_not]
      intro e
      exact he (by rw [hN, hM, e])
    rw [hne]
    have t1 : ((N : Int) != (M : Int)) = true := by simp; omega
    clear hN hM hr hr2 hl he hne HR HR2
    go_enter Try.func12, Try.ntmps12
    go_wp2_with fail
    go_ret
    exact ⟨rfl, Below.refl _ _⟩
end Go.Proofs.Ytkkjnahjmomjgaa
/- image.Decode. Conditions: at most 8192 words. -/
namespace Go.Proofs.Ytkkjnahjmomjgaa
set_option linter.unusedVariables false
set_option linter.unusedSimpArgs false
open Go.RowKit Go.Maps
set_option maxHeartbeats 8000000
set_option maxRecDepth 100000
theorem read_same {g : Gv} {ws : List (BitVec 64)} {l : List Nat} (h1 : objF ws ws.length (ws.length + 1) (2 + 5 * nR ws) = some l) (h2 : g.n.map normN = l.map (dNode ws l)) (h3 : g.r = (List.range (nR ws)).map (dRoot ws l)) {g' : Gv} (h : ckG g' = 0) (ht : endL g'.n (2 + 5 * g'.r.length) ≤ 8192) (e : encW g'.n g'.r = ws) : g.n.map normN = g'.n.map normN ∧ g.r = g'.r := by
  obtain ⟨r1, r2, r3, r4, r5⟩ := enc_read h ht
  obtain ⟨d1, d2⟩ := dec_enc h ht
  rw [e] at r2 r4 d1 d2
  rw [r2, r4] at h1
  injection h1 with h1
  rw [← h1] at h2 h3
  rw [r2] at h3
  exact ⟨h2.trans d1, h3.trans d2⟩
theorem normN_len {x y : Nv} (h : normN x = normN y) : x.ps.length = y.ps.length ∧ x.bs.length = y.bs.length := by
  unfold normN at h
  injection h with _ _ _ _ h1 h2
  exact ⟨by rw [h1], by rw [h2]⟩
theorem read_small {g : Gv} {ws : List (BitVec 64)} {l : List Nat} {b : Nat} (h8 : ws.length ≤ 8192) (h1 : objF ws ws.length (ws.length + 1) b = some l) (h2 : g.n.map normN = l.map (dNode ws l)) (h3 : g.r.length ≤ 100000) : g.Small := by
  have hl := objF_len _ _ _ h1
  have hn : g.n.length = l.length := by
    have h := congrArg List.length h2
    rwa [List.length_map, List.length_map] at h
  refine ⟨by omega, by omega, fun x hx => ?_⟩
  have hm : normN x ∈ l.map (dNode ws l) := by rw [← h2]; exact List.mem_map_of_mem hx
  obtain ⟨a, ha, e⟩ := List.mem_map.1 hm
  obtain ⟨_, _, hg⟩ := objF_mem _ _ _ h1 a ha
  obtain ⟨_, hP, hB, _, _, _⟩ := head_of hg
  have e2 : normN x = normN (dNode ws l a) := e.symm
  obtain ⟨l1, l2⟩ := normN_len e2
  rw [l1, l2]
  unfold dNode bytesM
  simp only [List.length_map, List.length_range]
  omega
def DecW (ws : List (BitVec 64)) (w : World) (r : Ending) (w' : World) : Prop :=
  (r = .returned (.tuple #[.agg #[.slice none 0 0, .slice none 0 0], .int .i64 2]) ∧ Below w.heap.size w w' ∧ BadW ws) ∨
  (∃ g : Gv, r = .returned (.tuple #[g.v, .int .i64 0]) ∧ g.At w' w'.heap.size ∧ ckG g = 0 ∧ endL g.n (2 + 5 * g.r.length) ≤ 8192 ∧ encW g.n g.r = ws ∧ Below w.heap.size w w' ∧ NOwn w' w.heap.size g.vn g.n ∧ ROwn w' w.heap.size g.vr g.r)
theorem decode_c (w : World) (A : Option Addr) (c : Nat) (ws : List (BitVec 64)) (hr : Rd u64v w w.heap.size A ws) (h8 : ws.length ≤ 8192) :
    Calls Try.prog 16 #[.slice A ws.length c] w (DecW ws w) := by
  obtain ⟨E, hE⟩ : ∃ E, E = DecW ws w := ⟨_, rfl⟩
  rw [← hE]
  have HE := Lib.hid hE
  have HRe := Lib.hid (fun W (b : Below w.heap.size w W) => read_c W A c ws ((hr.below b).more b.size) h8)
  have HX := Lib.hid (And.intro hr h8)
  obtain ⟨n, hn⟩ : ∃ n, n = ws.length := ⟨_, rfl⟩
  rw [← hn] at HRe ⊢
  have HN := Lib.hid hn
  clear hE hr h8 hn
  go_enter Try.func16, Try.ntmps16
  go_wp2_with fail
  obtain ⟨Rb, hRb⟩ : ∃ R, R = w.heap.size := ⟨_, rfl⟩
  obtain ⟨w1, hw1⟩ : ∃ W, W = w.alloc (.cells #[.slice none 0 0, .slice none 0 0] 25) := ⟨_, rfl⟩
  have hbk : Bk w1 Rb 25 #[.slice none 0 0, .slice none 0 0] := by rw [hw1, hRb]; exact Bk.new w _ _
  have b1 : Below w.heap.size w w1 := by rw [hw1]; exact Gw.alloc w _
  rw [← hw1, ← hRb]
  have HFr := Lib.hid (Nat.le_of_eq hRb.symm)
  have H1 := Lib.hid (And.intro hbk b1)
  clear hw1 hRb hbk b1
  refine Calls.mono (HRe.out w1 H1.out.2) ?_
  rintro r w2 (⟨er, her, rfl, b2, hbad⟩ | ⟨g, l, rfl, hgat, ho, hgn, hgr, hbl, b2, hno, hro⟩)
  · have H2 := Lib.hid (show Bk w2 Rb 25 #[.slice none 0 0, .slice none 0 0] ∧ Below w.heap.size w w2 from ⟨H1.out.1.below b2 H1.out.1.lt, H1.out.2.trans (b2.mono H1.out.2.size)⟩)
    have HBad := Lib.hid hbad
    have e1 : (er != 0) = true := by simpa using her
    clear b2 H1 HRe her hbad
    obtain ⟨q0, q1⟩ := H2.out.1.two
    have hRl := H2.out.1.lt
    have hfr0 := H2.out.1.free 0
    have hfr1 := H2.out.1.free 1
    go_wp2_with fail
    obtain ⟨V, hV⟩ : ∃ V, V = (((w2.setCell ⟨Rb, 0, none⟩ (.slice none 0 0)).setCell ⟨Rb, 1, none⟩ (.slice none 0 0)).alloc (.cells #[.slice none 0 0, .slice none 0 0] 25)) := ⟨_, rfl⟩
    have kR : Bk V Rb 25 #[.slice none 0 0, .slice none 0 0] := by rw [hV]; exact (two_set H2.out.1).alloc _
    have kB : Below w.heap.size w V := by rw [hV]; have kB0 := two_below (a' := .slice none 0 0) (b' := .slice none 0 0) H2.out.2 HFr.out; exact kB0.alloc kB0.size _
    have hl := run_loadVar_row (P := Try.prog) V Rb 25 25 #[.slice none 0 0, .slice none 0 0] (0, 0) _ kR Try.underlying25 rfl (by kernel_rfl)
    rw [← hV]
    clear hV q0 q1 hRl hfr0 hfr1
    refine bodyPost_ret (res2 (p := 2) (u := 3) (by kernel_rfl) hl rfl rfl) rfl ?_
    rw [HE.out]
    exact .inl ⟨rfl, kB, HBad.out⟩
  · have hsm : g.Small := read_small HX.out.2 ho hgn (by rw [hgr, List.length_map, List.length_range]; have := HX.out.2; omega)
    have H2 := Lib.hid (show Bk w2 Rb 25 #[.slice none 0 0, .slice none 0 0] ∧ Below w.heap.size w w2 from ⟨H1.out.1.below b2 H1.out.1.lt, H1.out.2.trans (b2.mono H1.out.2.size)⟩)
    have HG := Lib.hid (And.intro hgat (And.intro ho (And.intro hgn (And.intro hgr hsm))))
    have HOw := Lib.hid (show NOwn w2 w1.heap.size g.vn g.n ∧ ROwn w2 w1.heap.size g.vr g.r ∧ Rb < w1.heap.size ∧ w.heap.size ≤ w1.heap.size from ⟨hno, hro, H1.out.1.lt, H1.out.2.size⟩)
    have HEn := Lib.hid (fun W (b : Below w2.heap.size w2 W) => iencode_c W g (hgat.up b) hsm)
    clear b2 H1 HRe hgat ho hgn hgr hbl hsm hno hro
    obtain ⟨gA, gc, gA2, gc2, gns, grs⟩ := g
    obtain ⟨gN, hgN⟩ : ∃ z, z = gns.length := ⟨_, rfl⟩
    obtain ⟨gM, hgM⟩ : ∃ z, z = grs.length := ⟨_, rfl⟩
    have HGN := Lib.hid (And.intro hgN hgM)
    unfold Gv.v Gv.vn Gv.vr at HEn ⊢
    simp only at HEn ⊢
    rw [← hgN, ← hgM] at HEn ⊢
    clear hgN hgM
    go_wp2_with fail
    obtain ⟨Gb, hGb⟩ : ∃ G, G = w2.heap.size := ⟨_, rfl⟩
    obtain ⟨w3, hw3⟩ : ∃ W, W = w2.alloc (.cells #[.slice gA gN gc, .slice gA2 gM gc2] 25) := ⟨_, rfl⟩
    have hbk : Bk w3 Gb 25 #[.slice gA gN gc, .slice gA2 gM gc2] := by rw [hw3, hGb]; exact Bk.new w2 _ _
    have b3 : Below w2.heap.size w2 w3 := by rw [hw3]; exact Gw.alloc w2 _
    rw [← hw3, ← hGb]
    have H3 := Lib.hid (show Bk w3 Gb 25 #[.slice gA gN gc, .slice gA2 gM gc2] ∧ Bk w3 Rb 25 #[.slice none 0 0, .slice none 0 0] ∧ Below w.heap.size w w3 ∧ Below w2.heap.size w2 w3 ∧ Rb ≠ Gb from
      ⟨hbk, H2.out.1.below b3 H2.out.1.lt, H2.out.2.trans (b3.mono H2.out.2.size), b3, by have := H2.out.1.lt; omega⟩)
    clear hw3 hGb hbk b3
    refine Calls.mono (HEn.out w3 H3.out.2.2.2.1) ?_
    rintro r w4 (⟨hne, rfl, b4⟩ | ⟨hck, hend, v, rfl, how, b4⟩)
    · have H4 := Lib.hid (show Bk w4 Rb 25 #[.slice none 0 0, .slice none 0 0] ∧ Below w.heap.size w w4 from ⟨H3.out.2.1.below b4 H3.out.2.1.lt, H3.out.2.2.1.trans (b4.mono H3.out.2.2.1.size)⟩)
      have HBad := Lib.hid (show BadW ws from fun g' k1 k2 e => by
        obtain ⟨s1, s2⟩ := read_same (g := ⟨gA, gc, gA2, gc2, gns, grs⟩) HG.out.2.1 HG.out.2.2.1 HG.out.2.2.2.1 k1 k2 e
        obtain ⟨_, s3, s4⟩ := enc_same (g := ⟨gA, gc, gA2, gc2, gns, grs⟩) s1 s2
        apply hne
        unfold errG
        rw [s3, s4, if_pos k1, if_neg (by omega)])
      obtain ⟨er, her⟩ : ∃ er, er = errG ⟨gA, gc, gA2, gc2, gns, grs⟩ := ⟨_, rfl⟩
      rw [← her] at hne ⊢
      have e1 : (er != 0) = true := by simpa using hne
      clear b4 H3 HEn hne her
      obtain ⟨q0, q1⟩ := H4.out.1.two
      have hRl := H4.out.1.lt
      have hfr0 := H4.out.1.free 0
      have hfr1 := H4.out.1.free 1
      go_wp2_with fail
      obtain ⟨V, hV⟩ : ∃ V, V = ((w4.setCell ⟨Rb, 0, none⟩ (.slice none 0 0)).setCell ⟨Rb, 1, none⟩ (.slice none 0 0)) := ⟨_, rfl⟩
      have kR : Bk V Rb 25 #[.slice none 0 0, .slice none 0 0] := by rw [hV]; exact two_set H4.out.1
      have kB : Below w.heap.size w V := by rw [hV]; exact two_below H4.out.2 HFr.out
      have hl := run_loadVar_row (P := Try.prog) V Rb 25 25 #[.slice none 0 0, .slice none 0 0] (0, 0) _ kR Try.underlying25 rfl (by kernel_rfl)
      rw [← hV]
      clear hV q0 q1 hRl hfr0 hfr1
      refine bodyPost_ret (res2 (p := 2) (u := 3) (by kernel_rfl) hl rfl rfl) rfl ?_
      rw [HE.out]
      exact .inl ⟨rfl, kB, HBad.out⟩
    · obtain ⟨vA, vc, ev, _⟩ := how.form
      obtain ⟨vn, hvn⟩ : ∃ z, z = (encW gns grs).length := ⟨_, rfl⟩
      simp only at ev hck hend
      rw [ev] at how
      have HEq := Lib.hid (fun W (b : Below w4.heap.size w4 W) => equ_c W vA A vc c (encW gns grs) ws ((how.rd.below b).more b.size) (((HX.out.1.below (H3.out.2.2.1.trans (b4.mono H3.out.2.2.1.size))).more (Nat.le_trans H3.out.2.2.1.size b4.size)).below b |>.more b.size) (by
        have hl := encW_len gns grs (fun r hr => (goodS_size ((ckG_ok hck).2.2 r hr).1).2)
        omega))
      rw [← hvn] at ev
      rw [← hvn, ← HN.out] at HEq
      subst ev
      have H4 := Lib.hid (show Bk w4 Rb 25 #[.slice none 0 0, .slice none 0 0] ∧ Below w.heap.size w w4 ∧ Bk w4 Gb 25 #[.slice gA gN gc, .slice gA2 gM gc2] ∧ Below w2.heap.size w2 w4 from ⟨H3.out.2.1.below b4 H3.out.2.1.lt, H3.out.2.2.1.trans (b4.mono H3.out.2.2.1.size), H3.out.1.below b4 H3.out.1.lt, H3.out.2.2.2.1.trans (b4.mono H3.out.2.2.2.1.size)⟩)
      have HCk := Lib.hid (And.intro hck hend)
      clear how b4 HEn hvn hck hend
      by_cases he : encW gns grs = ws
      · have HEq1 := Lib.hid (fun W (b : Below w4.heap.size w4 W) => show Calls Try.prog 39 #[.slice vA vn vc, .slice A n c] W (RetP (.bool true) W) from by have h := HEq.out W b; rw [decide_eq_true he] at h; exact h)
        have HEe := Lib.hid he
        clear HEq he
        go_wp2_with fail
        refine Calls.mono (HEq1.out w4 (Below.refl _ _)) ?_
        rintro r w5 ⟨rfl, b5⟩
        have H5 := Lib.hid (show Bk w5 Rb 25 #[.slice none 0 0, .slice none 0 0] ∧ Below w.heap.size w w5 ∧ Bk w5 Gb 25 #[.slice gA gN gc, .slice gA2 gM gc2] ∧ Below w2.heap.size w2 w5 from ⟨H4.out.1.below b5 H4.out.1.lt, H4.out.2.1.trans (b5.mono H4.out.2.1.size), H4.out.2.2.1.below b5 H4.out.2.2.1.lt, H4.out.2.2.2.trans (b5.mono H4.out.2.2.2.size)⟩)
        clear b5 H4 HEq1
        obtain ⟨g0, g1⟩ := H5.out.2.2.1.two
        have hGl := H5.out.2.2.1.lt
        obtain ⟨q0, q1⟩ := H5.out.1.two
        have hRl := H5.out.1.lt
        have hfr0 := H5.out.1.free 0
        have hfr1 := H5.out.1.free 1
        have hne := H3.out.2.2.2.2
        go_wp2_with fail
        obtain ⟨V, hV⟩ : ∃ V, V = ((w5.setCell ⟨Rb, 0, none⟩ (.slice gA gN gc)).setCell ⟨Rb, 1, none⟩ (.slice gA2 gM gc2)) := ⟨_, rfl⟩
        have kR : Bk V Rb 25 #[.slice gA gN gc, .slice gA2 gM gc2] := by rw [hV]; exact two_set H5.out.1
        have kK : Kept (fun j => j = Rb) w5 V := by
          rw [hV]
          exact (Kept.set w5 Rb 0 _).trans (Kept.set _ Rb 1 _)
        have kB : Below w.heap.size w V := by rw [hV]; exact two_below H5.out.2.1 HFr.out
        have hl := run_loadVar_row (P := Try.prog) V Rb 25 25 #[.slice gA gN gc, .slice gA2 gM gc2] (0, 0) _ kR Try.underlying25 rfl (by kernel_rfl)
        rw [← hV]
        clear hV q0 q1 hRl hfr0 hfr1 g0 g1 hGl
        refine bodyPost_ret (res2 (p := 2) (u := 3) (by kernel_rfl) hl rfl rfl) rfl ?_
        rw [HE.out]
        have hN5 : NOwn w5 w1.heap.size (.slice gA gN gc) gns := by
          have h := HOw.out.1
          rw [HGN.out.1]
          exact h.below H5.out.2.2.2
        have hR5 : ROwn w5 w1.heap.size (.slice gA2 gM gc2) grs := by
          have h := HOw.out.2.1
          rw [HGN.out.2]
          exact h.below H5.out.2.2.2
        have hNV : NOwn V w1.heap.size (.slice gA gN gc) gns := by
          refine hN5.grown (q := Rb) ⟨kK.os, kK.tape, kK.output, kK.size, fun j hj hn => kK.block j hj (fun e => hn (by rw [e]))⟩ (fun hm => ?_)
          have := blks_ge hN5 Rb hm
          have := HOw.out.2.2.1
          omega
        have hRV : ROwn V w1.heap.size (.slice gA2 gM gc2) grs := kK.rowF hR5 (fun j hj hh => by have h9 := (World.ownsRow.lt hR5 j hj).1; have := HOw.out.2.2.1; omega)
        obtain ⟨r1, r2, r3⟩ := hNV.rows
        obtain ⟨t1, t2, t3⟩ := hRV.rows
        refine .inr ⟨⟨gA, gc, gA2, gc2, gns, grs⟩, ?_, ⟨r1, t1, r3, t3⟩, HCk.out.1, HCk.out.2, HEe.out, kB, ?_, ?_⟩
        · show _ = Ending.returned (.tuple #[.agg #[.slice gA gns.length gc, .slice gA2 grs.length gc2], .int .i64 0])
          rw [← HGN.out.1, ← HGN.out.2]
          rfl
        · show NOwn V w.heap.size (.slice gA gns.length gc) gns
          rw [← r2]
          exact hNV.mono HOw.out.2.2.2
        · show ROwn V w.heap.size (.slice gA2 grs.length gc2) grs
          rw [← t2]
          exact hRV.mono HOw.out.2.2.2
      · have HEq1 := Lib.hid (fun W (b : Below w4.heap.size w4 W) => show Calls Try.prog 39 #[.slice vA vn vc, .slice A n c] W (RetP (.bool false) W) from by have h := HEq.out W b; rw [decide_eq_false he] at h; exact h)
        have HBad := Lib.hid (show BadW ws from fun g' k1 k2 e => by
          obtain ⟨s1, s2⟩ := read_same (g := ⟨gA, gc, gA2, gc2, gns, grs⟩) HG.out.2.1 HG.out.2.2.1 HG.out.2.2.2.1 k1 k2 e
          obtain ⟨s3, _, _⟩ := enc_same (g := ⟨gA, gc, gA2, gc2, gns, grs⟩) s1 s2
          exact he (s3.trans e))
        clear HEq he
        go_wp2_with fail
        refine Calls.mono (HEq1.out w4 (Below.refl _ _)) ?_
        rintro r w5 ⟨rfl, b5⟩
        have H5 := Lib.hid (show Bk w5 Rb 25 #[.slice none 0 0, .slice none 0 0] ∧ Below w.heap.size w w5 from ⟨H4.out.1.below b5 H4.out.1.lt, H4.out.2.1.trans (b5.mono H4.out.2.1.size)⟩)
        clear b5 H4 HEq1
        obtain ⟨q0, q1⟩ := H5.out.1.two
        have hRl := H5.out.1.lt
        have hfr0 := H5.out.1.free 0
        have hfr1 := H5.out.1.free 1
        go_wp2_with fail
        obtain ⟨V, hV⟩ : ∃ V, V = ((w5.setCell ⟨Rb, 0, none⟩ (.slice none 0 0)).setCell ⟨Rb, 1, none⟩ (.slice none 0 0)) := ⟨_, rfl⟩
        have kR : Bk V Rb 25 #[.slice none 0 0, .slice none 0 0] := by rw [hV]; exact two_set H5.out.1
        have kB : Below w.heap.size w V := by rw [hV]; exact two_below H5.out.2 HFr.out
        have hl := run_loadVar_row (P := Try.prog) V Rb 25 25 #[.slice none 0 0, .slice none 0 0] (0, 0) _ kR Try.underlying25 rfl (by kernel_rfl)
        rw [← hV]
        clear hV q0 q1 hRl hfr0 hfr1
        refine bodyPost_ret (res2 (p := 2) (u := 3) (by kernel_rfl) hl rfl rfl) rfl ?_
        rw [HE.out]
        exact .inl ⟨rfl, kB, HBad.out⟩
end Go.Proofs.Ytkkjnahjmomjgaa
