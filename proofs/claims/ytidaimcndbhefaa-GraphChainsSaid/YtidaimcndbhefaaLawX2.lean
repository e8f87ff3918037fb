/- The law GraphChains of layer 17 returns true for every argument. No conditions. -/
import Derived.Test.YtidaimcndbhefaaGrK
namespace Go.Proofs.Ytidaimcndbhefaa
set_option linter.unusedVariables false
set_option linter.unusedSimpArgs false
open Go.RowKit Go.Maps
/-- The chain's nodes: each points at the next one, the last one at none. -/
def chP (m i : Nat) : List Int := if i + 1 = m then [0] else [((i + 2 : Nat) : Int)]
def chM (m : Nat) (j : Nat) : List (List Int × List (BitVec 8)) := (List.range j).map fun i => (chP m i, [])
theorem chM_succ (m j : Nat) : chM m (j + 1) = chM m j ++ [(chP m j, [])] := by unfold chM; rw [List.range_succ, List.map_append]; rfl
theorem ow_one {α : Type} {f : α → Value} {E : TypeId} {w : World} {q base : Nat} {x : α} (h : Bk w q E #[f x]) (hb : base ≤ q) : Ow f E w base (.slice (some ⟨q, 0, none⟩) 1 1) [x] :=
  ⟨rfl, .inr ⟨q, 1, _, rfl, hb, h, Nat.le_refl _, by simp [maxLen], rfl, rfl⟩⟩
theorem ch_len {m : Nat} {ns : List Nv} (h : ns.map Nv.m = chM m m) : ns.length = m := by
  have := congrArg List.length h
  simpa [chM] using this
theorem ch_ptrs {m : Nat} {ns : List Nv} (h : ns.map Nv.m = chM m m) (p : Int) (hp : hasG m p = true) : ptrsG ns p = if p = (m : Int) then [0] else [p + 1] := by
  have h1 := hasG_iff.1 hp
  obtain ⟨i, rfl, hi⟩ : ∃ i : Nat, p = (i : Int) + 1 ∧ i < m := ⟨(p - 1).toNat, by omega, by omega⟩
  have hl := ch_len h
  have e : (ns.map Nv.m)[i]? = (chM m m)[i]? := by rw [h]
  rw [List.getElem?_map, List.getElem?_eq_getElem (by omega)] at e
  unfold chM at e
  rw [List.getElem?_map, List.getElem?_range hi] at e
  simp only [Option.map_some, Option.some.injEq] at e
  unfold ptrsG
  rw [show ((i : Int) + 1 - 1).toNat = i by omega, List.getElem?_eq_getElem (by omega)]
  have e2 : ns[i].ps = chP m i := congrArg Prod.fst e
  show ns[i].ps = _
  rw [e2]
  unfold chP
  by_cases c : i + 1 = m
  · rw [if_pos c, if_pos (by omega)]
  · rw [if_neg c, if_neg (by omega), show (((i + 2 : Nat) : Int)) = (i : Int) + 1 + 1 from by omega]
theorem ch_rch {m k : Nat} {ns : List Nv} (h : ns.map Nv.m = chM m m) (hk : 1 ≤ k) (hkm : k ≤ m) (p : Int) (hp : hasG m p = true) : Rch ns [(k : Int)] p ↔ (k : Int) ≤ p := by
  have hl := ch_len h
  constructor
  · intro hr
    induction hr with
    | base p h1 h2 =>
      have h3 : p = (k : Int) := by simpa using h1
      omega
    | step p q h1 h2 h3 ih =>
      have hpp := h1.has
      rw [hl] at hpp h3
      have := ih hpp
      rw [ch_ptrs h p hpp] at h2
      split at h2
      · have : q = 0 := by simpa using h2
        have := hasG_iff.1 h3
        omega
      · have : q = p + 1 := by simpa using h2
        omega
  · intro hle
    have hpm := hasG_iff.1 hp
    obtain ⟨d, hd⟩ : ∃ d : Nat, p = (k : Int) + d := ⟨(p - k).toNat, by omega⟩
    subst hd
    clear hle
    induction d with
    | zero => exact .base _ (by simp) (by rw [hl]; exact hp)
    | succ d ih =>
      have h1 : hasG m ((k : Int) + (d : Nat)) = true := hasG_iff.2 (by omega)
      refine .step ((k : Int) + (d : Nat)) _ (ih h1 (by omega)) ?_ (by rw [hl]; exact hp)
      rw [ch_ptrs h _ h1, if_neg (by omega)]
      have e : (k : Int) + ((d + 1 : Nat) : Int) = (k : Int) + (d : Nat) + 1 := by omega
      rw [e]
      exact List.mem_singleton.2 rfl
/-- What is reached of the chain. -/
def chL (m k : Nat) : List Bool := (List.range m).map fun i => decide (k ≤ i + 1)
theorem seen_ch {m k : Nat} {L : List Bool} (hl : L.length = m) (h : ∀ p, hasG m p = true → (seenG L p = true ↔ (k : Int) ≤ p)) : L = chL m k := by
  refine List.ext_getElem (by simp [chL, hl]) fun i h1 h2 => ?_
  have hp : hasG m ((i : Int) + 1) = true := hasG_iff.2 (by omega)
  have h3 := h _ hp
  have h4 : seenG L ((i : Int) + 1) = L[i] := by
    unfold seenG
    rw [show ((i : Int) + 1 - 1).toNat = i by omega, List.getD_eq_getElem?_getD, List.getElem?_eq_getElem h1]; rfl
  rw [h4] at h3
  have h5 : (chL m k)[i] = decide (k ≤ i + 1) := by simp [chL]
  rw [h5, Bool.eq_iff_iff, h3, decide_eq_true_iff]
  omega
theorem ch_count (m k : Nat) (hk : 1 ≤ k) : (chL m k).count true = m + 1 - k := by
  induction m with
  | zero => simp [chL]; omega
  | succ m ih =>
    have e : chL (m + 1) k = chL m k ++ [decide (k ≤ m + 1)] := by unfold chL; rw [List.range_succ, List.map_append]; rfl
    rw [e, List.count_append, ih]
    by_cases c : k ≤ m + 1
    · simp [c]; omega
    · simp [c]; omega
theorem trimN_len (now : List (Int × Int)) : ∀ (ns : List Nv) (L : List Bool), ns.length = L.length → (trimN now ns L).length = L.count true
  | [], [], _ => rfl
  | x :: r, b :: l, h => by
    have := trimN_len now r l (by simpa using h)
    unfold trimN
    cases b <;> simp [this]
  | [], b :: l, h => by simp at h
  | x :: r, [], h => by simp at h
theorem trimN_each (now : List (Int × Int)) : ∀ (ns : List Nv) (L : List Bool), (∀ x ∈ ns, x.ps.length = 1 ∧ x.bs = []) → ∀ y ∈ trimN now ns L, y.1.length = 1 ∧ y.2 = []
  | x :: r, b :: l, h, y, hy => by
    unfold trimN at hy
    cases b
    · simp only [Bool.false_eq_true, if_false] at hy
      exact trimN_each now r l (fun z hz => h z (by simp [hz])) y hy
    · simp only [if_true] at hy
      rcases List.mem_cons.1 hy with rfl | hy
      · have := h x (by simp)
        exact ⟨by rw [List.length_map]; exact this.1, this.2⟩
      · exact trimN_each now r l (fun z hz => h z (by simp [hz])) y hy
  | [], _, _, y, hy => by cases hy
  | x :: r, [], _, y, hy => by cases hy
theorem words_ch : ∀ (xs : List Nv), (∀ x ∈ xs, x.ps.length = 1 ∧ x.bs = []) → wordsL xs = 2 * (xs.length : Int)
  | [], _ => rfl
  | x :: r, h => by
    have h1 := h x (by simp)
    have h2 := words_ch r (fun z hz => h z (by simp [hz]))
    have e : szN x = 2 := by unfold szN; rw [h1.1, h1.2]; rfl
    unfold wordsL
    rw [e, h2, List.length_cons]
    omega
theorem ch_each {m : Nat} {ns : List Nv} (h : ns.map Nv.m = chM m m) : ∀ x ∈ ns, x.ps.length = 1 ∧ x.bs = [] := by
  intro x hx
  have : x.m ∈ ns.map Nv.m := List.mem_map.2 ⟨x, hx, rfl⟩
  rw [h] at this
  obtain ⟨i, _, e⟩ := List.mem_map.1 this
  unfold Nv.m at e
  injection e with e1 e2
  rw [← e1, ← e2]
  refine ⟨?_, rfl⟩
  unfold chP
  split <;> rfl
theorem wf8 {x : Int} (h : (Lit.int .u8 x).wf = true) : ∃ n : Nat, x = (n : Int) ∧ n ≤ 255 := by
  have : 0 ≤ x ∧ x ≤ 255 := by simpa [Lit.wf, IntKind.min, IntKind.max, IntKind.signed, IntKind.bits] using h
  exact ⟨x.toNat, by omega, by omega⟩
/-- The chain's state before the round with j nodes. -/
structure ChS (m gb : Nat) (w W : World) (j : Nat) (A : Option Addr) (c : Nat) (xs : List Nv) : Prop where
  len : xs.length = j
  map : xs.map Nv.m = chM m j
  own : NOwn W w.heap.size (.slice A j c) xs
  bk : Bk W gb 25 #[.slice A j c, .slice none 0 0]
  kp : Kept (fun b => b = gb) w W
  lt : gb < w.heap.size
/-- A node more is written to the box. -/
theorem ch_step {w W W4 W5 : World} {m gb j : Nat} {A A5 : Option Addr} {c c5 : Nat} {z : Int} {q : Nat} {xs : List Nv} (h : ChS m gb w W j A c xs) (hq : q = W.heap.size) (hz : chP m j = [z])
    (hb4 : Below W.heap.size W W4) (hx : Ow iV 3 W4 w.heap.size (.slice (some ⟨q, 0, none⟩) 1 1) [z])
    (ho : W5.ownsRow w.heap.size 53 2 (.slice A5 (j + 1) c5) (j + 1) (xs.flatMap Nv.cs ++ [.slice (some ⟨q, 0, none⟩) 1 1, .slice none 0 0])) (hw5 : Below w.heap.size W4 W5) (hg : W4.grownBy W5 (Value.slice A j c).ownBlock)
    (hv : (Value.slice A5 (j + 1) c5).ownBlock = (Value.slice A j c).ownBlock ∨ (Value.slice A5 (j + 1) c5).ownBlock = some W4.heap.size) :
    Bk W5 gb 25 #[.slice A j c, .slice none 0 0] ∧ ChS m gb w (W5.setCell ⟨gb, 0, none⟩ (.slice A5 (j + 1) c5)) (j + 1) A5 c5 (xs ++ [⟨some ⟨q, 0, none⟩, 1, none, 0, [z], []⟩]) := by
  obtain ⟨h1, h2, h3, h4, h5, h6⟩ := h
  have hn : NOwn W5 w.heap.size (.slice A5 (j + 1) c5) (xs ++ [⟨some ⟨q, 0, none⟩, 1, none, 0, [z], []⟩]) := by
    refine NOwn.snoc h3 hb4 ⟨hx, Ow.nil_ _ _ _ _⟩ ⟨fun k e => ?_, fun k e => (by cases e), fun k e e2 => (by cases e2)⟩ (by rw [h1]; exact ho) hg hv
    injection e with e
    have e3 : q = k := e
    omega
  have hk5 : Bk W5 gb 25 #[.slice A j c, .slice none 0 0] := (h4.below hb4 h4.lt).below hw5 h6
  refine ⟨hk5, by rw [List.length_append, h1]; rfl, ?_, hn.grown (grown_set W5 ⟨gb, 0, none⟩ _) (fun hh => ?_), Bk.set hk5 0 _, ((h5.trans (Kept.of_below hb4 _)).bel hw5).trans (Kept.set W5 gb 0 _), h6⟩
  · rw [List.map_append, h2, chM_succ, hz]; rfl
  · have := blks_ge hn gb hh
    omega
theorem ch_at {W : World} {base j : Nat} {A : Option Addr} {c : Nat} {xs : List Nv} (h : NOwn W base (.slice A j c) xs) : (⟨A, c, none, 0, xs, []⟩ : Gv).At W W.heap.size :=
  ⟨h.rows.1, fun i hi => absurd hi (by simp), h.rows.2.2, Nat.le_refl _⟩
theorem ch_small {A : Option Addr} {c m : Nat} {xs : List Nv} (hl : xs.length = m) (hm : m ≤ 50) (h : xs.map Nv.m = chM m m) : (⟨A, c, none, 0, xs, []⟩ : Gv).Small := by
  refine ⟨by show xs.length ≤ _; omega, by simp, fun x hx => ?_⟩
  have := ch_each h x hx
  rw [this.1, this.2]
  simp
def chW (W : World) (z : Int) : World := ((W.alloc (.cells #[.int .i64 z] 3)).alloc (.cells #[.slice (some ⟨W.heap.size, 0, none⟩) 1 1, .slice none 0 0] 53)).alloc (.cells #[.slice (some ⟨W.heap.size, 0, none⟩) 1 1, .slice none 0 0] 53)
structure ChW (W : World) (base : Nat) (z : Int) : Prop where
  bl : Below W.heap.size W (chW W z)
  ow : Ow iV 3 (chW W z) base (.slice (some ⟨W.heap.size, 0, none⟩) 1 1) [z]
  nw : ∀ (i : Nat) (u : Value), [Value.slice (some ⟨W.heap.size, 0, none⟩) 1 1, .slice none 0 0][i]? = some u → (chW W z).cell? ((⟨W.heap.size + 2, 0, none⟩ : Addr).add i) = some u
  ge : base ≤ (chW W z).heap.size
theorem chw (W : World) (base : Nat) (hb : base ≤ W.heap.size) (z : Int) : ChW W base z := by
  have b1 := Gw.alloc W (.cells #[.int .i64 z] 3)
  have b2 := Gw.alloc (W.alloc (.cells #[.int .i64 z] 3)) (.cells #[.slice (some ⟨W.heap.size, 0, none⟩) 1 1, .slice none 0 0] 53)
  have b3 := Gw.alloc ((W.alloc (.cells #[.int .i64 z] 3)).alloc (.cells #[.slice (some ⟨W.heap.size, 0, none⟩) 1 1, .slice none 0 0] 53)) (.cells #[.slice (some ⟨W.heap.size, 0, none⟩) 1 1, .slice none 0 0] 53)
  have bl : Below W.heap.size W (chW W z) := b1.trans ((b2.trans (b3.mono (by simp))).mono (by simp))
  refine ⟨bl, ?_, fun i u hu => ?_, Nat.le_trans hb bl.size⟩
  · have h1 : Bk (chW W z) W.heap.size 3 #[iV z] := ((Bk.new W 3 #[iV z]).alloc _).alloc _
    exact ow_one h1 hb
  · have hj : i < 2 := by have := (List.getElem?_eq_some_iff.1 hu).1; simpa using this
    have n5 : Bk (chW W z) (W.heap.size + 2) 53 #[.slice (some ⟨W.heap.size, 0, none⟩) 1 1, .slice none 0 0] := by
      have := Bk.new ((W.alloc (.cells #[.int .i64 z] 3)).alloc (.cells #[.slice (some ⟨W.heap.size, 0, none⟩) 1 1, .slice none 0 0] 53)) 53 #[.slice (some ⟨W.heap.size, 0, none⟩) 1 1, .slice none 0 0]
      rw [show ((W.alloc (.cells #[.int .i64 z] 3)).alloc (.cells #[.slice (some ⟨W.heap.size, 0, none⟩) 1 1, .slice none 0 0] 53)).heap.size = W.heap.size + 2 from by simp] at this
      exact this
    rw [addr_at, n5.cell]
    rcases (show i = 0 ∨ i = 1 by omega) with rfl | rfl
    · simpa using hu
    · simpa using hu
theorem ch_one (q : Nat) : ∀ u ∈ [Value.slice (some ⟨q, 0, none⟩) 1 1, .slice none 0 0], u.oneCell' = true := fun u hu => by
  simp only [List.mem_cons, List.not_mem_nil, or_false] at hu
  rcases hu with rfl | rfl <;> rfl
set_option maxHeartbeats 4000000
set_option maxRecDepth 100000
theorem chain_r (Q : Exit → Act → World → Prop) (a0 : Act) (w : World) (q q2 n j k : Nat) (z : Int) (hr0 : Hid (∀ W, Below w.heap.size w W → W.cell? ⟨q, n, none⟩ = some (.bool (decide ((k : Int) ≤ (n : Int) + 1))))) (hr1 : Hid (∀ W, Below w.heap.size w W → W.cell? ⟨q2, n, none⟩ = some (.int .i64 z))) (hz : Hid (decide ((0 : Int) < z) = decide ((k : Int) ≤ (n : Int) + 1))) (hn0 : (0 : Int) ≤ (n : Int)) (hn : (n : Int) < (j : Int)) (hj : (j : Int) ≤ 50) (hsz : a0.tmps.size = 108) (sl6 : a0.tmps.getD 6 undef = .int .i64 k) (sl10 : a0.tmps.getD 10 undef = .slice (some ⟨q, 0, none⟩) j j) (sl12 : a0.tmps.getD 12 undef = .slice (some ⟨q2, 0, none⟩) j j) (sl13 : a0.tmps.getD 13 undef = .int .i64 n)
    (fin : ∀ (vals : Nat → Value) (w1 : World), Below w.heap.size w w1 → (IsV (.bool false)) (vals 20) w1 → Q .normal (putD vals [87, 88, 89, 90, 91, 92, 93, 94, 95, 96, 97, 98, 99, 100, 101, 102, 103, 104, 105, 106, 107] 0 a0) w1) :
    (Code.region 20 (regIn Try.f6 20) true).wp Try.prog Q a0 w := by
  refine region_by (G := fun w w1 => Below w.heap.size w w1) [IsV (.slice (some ⟨q, 0, none⟩) j j),
    IsV (.int .i64 n),
    IsV (.pointer (some ⟨q, n, none⟩)),
    IsV (.bool (decide ((k : Int) ≤ (n : Int) + 1))),
    IsV (.int .i64 n),
    IsV (.int .i64 ((n : Int) + 1)),
    IsV (.int .i64 k),
    IsV (.bool (decide ((k : Int) ≤ (n : Int) + 1))),
    IsV (.bool false),
    IsV (.bool false),
    IsV (.slice (some ⟨q2, 0, none⟩) j j),
    IsV (.int .i64 n),
    IsV (.pointer (some ⟨q2, n, none⟩)),
    IsV (.int .i64 z),
    IsV (.bool (decide ((0 : Int) < z))),
    IsV (.slice (some ⟨q, 0, none⟩) j j),
    IsV (.int .i64 n),
    IsV (.pointer (some ⟨q, n, none⟩)),
    IsV (.bool (decide ((k : Int) ≤ (n : Int) + 1))),
    IsV (.bool false),
    IsV (.bool false)]
    [87, 88, 89, 90, 91, 92, 93, 94, 95, 96, 97, 98, 99, 100, 101, 102, 103, 104, 105, 106, 107] (by kernel_rfl) (Gw.drew _) Gw.trans (by rw [hsz]; kernel_rfl) (by kernel_rfl) ?_ ?_ ?_
  · intro f hf
    simp only [List.mem_cons, List.not_mem_nil, or_false] at hf
    rcases hf with rfl | rfl | rfl | rfl | rfl | rfl | rfl | rfl | rfl | rfl | rfl | rfl | rfl | rfl | rfl | rfl | rfl | rfl | rfl | rfl | rfl <;> intro v a b h g <;> first | exact IsV.mono h
  · refine ⟨?_, ?_, ?_, ?_, ?_, ?_, ?_, ?_, ?_, ?_, ?_, ?_, ?_, ?_, ?_, ?_, ?_, ?_, ?_, ?_, ?_, trivial⟩
    · exact owes_mv 10 (by kernel_rfl) (by kernel_rfl) (by kernel_rfl) sl10 (fun _ => rfl)
    · exact owes_mv 13 (by kernel_rfl) (by kernel_rfl) (by kernel_rfl) sl13 (fun _ => rfl)
    · refine owes_v (Go.Op.indexAddr 37 (Go.Operand.tmp 87) (Go.Operand.tmp 88)) 0 [0, 1] (by kernel_rfl) (by kernel_rfl) (by kernel_rfl) rfl fun vals w1 ρ hG hF hρ hcst hfun => ?_
      have e87 : ρ (.tmp 87) = .slice (some ⟨q, 0, none⟩) j j := ((hρ 87).trans (slotJ [0, 1] (by rw [hsz]; decide) (by kernel_rfl))).trans (hF 0 (by decide))
      have e88 : ρ (.tmp 88) = .int .i64 n := ((hρ 88).trans (slotJ [0, 1] (by rw [hsz]; decide) (by kernel_rfl))).trans (hF 1 (by decide))
      clear hρ hF hcst hfun sl6 sl10 sl12 sl13 fin
      exact opv_val (by go_simp <;> rfl) ⟨gw_self _, rfl⟩
    · refine owes_v (Go.Op.load 4 (Go.Operand.tmp 89)) 4 [2] (by kernel_rfl) (by kernel_rfl) (by kernel_rfl) rfl fun vals w1 ρ hG hF hρ hcst hfun => ?_
      have e89 : ρ (.tmp 89) = .pointer (some ⟨q, n, none⟩) := ((hρ 89).trans (slotJ [2] (by rw [hsz]; decide) (by kernel_rfl))).trans (hF 2 (by decide))
      have d0 := hr0.out w1 hG
      clear hρ hF hcst hfun sl6 sl10 sl12 sl13 fin
      exact opv_val (by go_simp <;> rfl) ⟨gw_self _, rfl⟩
    · exact owes_mv 13 (by kernel_rfl) (by kernel_rfl) (by kernel_rfl) sl13 (fun _ => rfl)
    · refine owes_v (Go.Op.binOp Go.BinOp.add 3 (Go.Operand.tmp 91) (Go.Operand.const (Go.Value.int Go.IntKind.i64 1)) 3) 3 [4] (by kernel_rfl) (by kernel_rfl) (by kernel_rfl) rfl fun vals w1 ρ hG hF hρ hcst hfun => ?_
      have e91 : ρ (.tmp 91) = .int .i64 n := ((hρ 91).trans (slotJ [4] (by rw [hsz]; decide) (by kernel_rfl))).trans (hF 4 (by decide))
      have kw0 : IntKind.i64.wrap ((n : Int) + 1) = (n : Int) + 1 := wrapIn (by omega) (by omega)
      clear hρ hF hfun sl6 sl10 sl12 sl13 fin
      exact opv_val (by go_simp <;> rfl) ⟨gw_self _, rfl⟩
    · exact owes_mv 6 (by kernel_rfl) (by kernel_rfl) (by kernel_rfl) sl6 (fun _ => rfl)
    · refine owes_v (Go.Op.binOp Go.BinOp.geq 3 (Go.Operand.tmp 92) (Go.Operand.tmp 93) 3) 4 [5, 6] (by kernel_rfl) (by kernel_rfl) (by kernel_rfl) rfl fun vals w1 ρ hG hF hρ hcst hfun => ?_
      have e92 : ρ (.tmp 92) = .int .i64 ((n : Int) + 1) := ((hρ 92).trans (slotJ [5, 6] (by rw [hsz]; decide) (by kernel_rfl))).trans (hF 5 (by decide))
      have e93 : ρ (.tmp 93) = .int .i64 k := ((hρ 93).trans (slotJ [5, 6] (by rw [hsz]; decide) (by kernel_rfl))).trans (hF 6 (by decide))
      clear hρ hF hcst hfun sl6 sl10 sl12 sl13 fin
      exact opv_val (by go_simp <;> rfl) ⟨gw_self _, rfl⟩
    · refine owes_v (Go.Op.binOp Go.BinOp.neq 4 (Go.Operand.tmp 90) (Go.Operand.tmp 94) 4) 4 [3, 7] (by kernel_rfl) (by kernel_rfl) (by kernel_rfl) rfl fun vals w1 ρ hG hF hρ hcst hfun => ?_
      have e90 : ρ (.tmp 90) = .bool (decide ((k : Int) ≤ (n : Int) + 1)) := ((hρ 90).trans (slotJ [3, 7] (by rw [hsz]; decide) (by kernel_rfl))).trans (hF 3 (by decide))
      have e94 : ρ (.tmp 94) = .bool (decide ((k : Int) ≤ (n : Int) + 1)) := ((hρ 94).trans (slotJ [3, 7] (by rw [hsz]; decide) (by kernel_rfl))).trans (hF 7 (by decide))
      clear hρ hF hcst hfun sl6 sl10 sl12 sl13 fin
      exact opv_val (by go_simp <;> rfl) ⟨gw_self _, rfl⟩
    · exact owes_mvj 8 95 (by kernel_rfl) (by kernel_rfl) (by kernel_rfl) (by kernel_rfl) (by rw [hsz]; decide) (fun v w h => h)
    · refine owes_vt 9 false (Go.Op.move (Go.Operand.tmp 12)) 26 [] (by kernel_rfl) (by kernel_rfl) (by kernel_rfl) (fun _ _ h => h) (by rw [hsz]; kernel_rfl) (by kernel_rfl) rfl fun vals w1 ρ hG hF hρ hcst hfun => ?_
      have e12 : ρ (.tmp 12) = .slice (some ⟨q2, 0, none⟩) j j := ((hρ 12).trans (slotO [] (by kernel_rfl))).trans sl12
      clear hρ hF hcst hfun sl6 sl10 sl12 sl13 fin
      exact opv_val (by go_simp <;> rfl) ⟨gw_self _, rfl⟩
    · refine owes_vt 9 false (Go.Op.move (Go.Operand.tmp 13)) 3 [] (by kernel_rfl) (by kernel_rfl) (by kernel_rfl) (fun _ _ h => h) (by rw [hsz]; kernel_rfl) (by kernel_rfl) rfl fun vals w1 ρ hG hF hρ hcst hfun => ?_
      have e13 : ρ (.tmp 13) = .int .i64 n := ((hρ 13).trans (slotO [] (by kernel_rfl))).trans sl13
      clear hρ hF hcst hfun sl6 sl10 sl12 sl13 fin
      exact opv_val (by go_simp <;> rfl) ⟨gw_self _, rfl⟩
    · refine owes_vt 9 false (Go.Op.indexAddr 26 (Go.Operand.tmp 97) (Go.Operand.tmp 98)) 0 [10, 11] (by kernel_rfl) (by kernel_rfl) (by kernel_rfl) (fun _ _ h => h) (by rw [hsz]; kernel_rfl) (by kernel_rfl) rfl fun vals w1 ρ hG hF hρ hcst hfun => ?_
      have e97 : ρ (.tmp 97) = .slice (some ⟨q2, 0, none⟩) j j := ((hρ 97).trans (slotJ [10, 11] (by rw [hsz]; decide) (by kernel_rfl))).trans (hF 10 (by decide))
      have e98 : ρ (.tmp 98) = .int .i64 n := ((hρ 98).trans (slotJ [10, 11] (by rw [hsz]; decide) (by kernel_rfl))).trans (hF 11 (by decide))
      clear hρ hF hcst hfun sl6 sl10 sl12 sl13 fin
      exact opv_val (by go_simp <;> rfl) ⟨gw_self _, rfl⟩
    · refine owes_vt 9 false (Go.Op.load 3 (Go.Operand.tmp 99)) 3 [12] (by kernel_rfl) (by kernel_rfl) (by kernel_rfl) (fun _ _ h => h) (by rw [hsz]; kernel_rfl) (by kernel_rfl) rfl fun vals w1 ρ hG hF hρ hcst hfun => ?_
      have e99 : ρ (.tmp 99) = .pointer (some ⟨q2, n, none⟩) := ((hρ 99).trans (slotJ [12] (by rw [hsz]; decide) (by kernel_rfl))).trans (hF 12 (by decide))
      have d0 := hr1.out w1 hG
      clear hρ hF hcst hfun sl6 sl10 sl12 sl13 fin
      exact opv_val (by go_simp <;> rfl) ⟨gw_self _, rfl⟩
    · refine owes_vt 9 false (Go.Op.binOp Go.BinOp.gtr 3 (Go.Operand.tmp 100) (Go.Operand.const (Go.Value.int Go.IntKind.i64 0)) 3) 4 [13] (by kernel_rfl) (by kernel_rfl) (by kernel_rfl) (fun _ _ h => h) (by rw [hsz]; kernel_rfl) (by kernel_rfl) rfl fun vals w1 ρ hG hF hρ hcst hfun => ?_
      have e100 : ρ (.tmp 100) = .int .i64 z := ((hρ 100).trans (slotJ [13] (by rw [hsz]; decide) (by kernel_rfl))).trans (hF 13 (by decide))
      clear hρ hF hfun sl6 sl10 sl12 sl13 fin
      exact opv_val (by go_simp <;> rfl) ⟨gw_self _, rfl⟩
    · refine owes_vt 9 false (Go.Op.move (Go.Operand.tmp 10)) 37 [] (by kernel_rfl) (by kernel_rfl) (by kernel_rfl) (fun _ _ h => h) (by rw [hsz]; kernel_rfl) (by kernel_rfl) rfl fun vals w1 ρ hG hF hρ hcst hfun => ?_
      have e10 : ρ (.tmp 10) = .slice (some ⟨q, 0, none⟩) j j := ((hρ 10).trans (slotO [] (by kernel_rfl))).trans sl10
      clear hρ hF hcst hfun sl6 sl10 sl12 sl13 fin
      exact opv_val (by go_simp <;> rfl) ⟨gw_self _, rfl⟩
    · refine owes_vt 9 false (Go.Op.move (Go.Operand.tmp 13)) 3 [] (by kernel_rfl) (by kernel_rfl) (by kernel_rfl) (fun _ _ h => h) (by rw [hsz]; kernel_rfl) (by kernel_rfl) rfl fun vals w1 ρ hG hF hρ hcst hfun => ?_
      have e13 : ρ (.tmp 13) = .int .i64 n := ((hρ 13).trans (slotO [] (by kernel_rfl))).trans sl13
      clear hρ hF hcst hfun sl6 sl10 sl12 sl13 fin
      exact opv_val (by go_simp <;> rfl) ⟨gw_self _, rfl⟩
    · refine owes_vt 9 false (Go.Op.indexAddr 37 (Go.Operand.tmp 102) (Go.Operand.tmp 103)) 0 [15, 16] (by kernel_rfl) (by kernel_rfl) (by kernel_rfl) (fun _ _ h => h) (by rw [hsz]; kernel_rfl) (by kernel_rfl) rfl fun vals w1 ρ hG hF hρ hcst hfun => ?_
      have e102 : ρ (.tmp 102) = .slice (some ⟨q, 0, none⟩) j j := ((hρ 102).trans (slotJ [15, 16] (by rw [hsz]; decide) (by kernel_rfl))).trans (hF 15 (by decide))
      have e103 : ρ (.tmp 103) = .int .i64 n := ((hρ 103).trans (slotJ [15, 16] (by rw [hsz]; decide) (by kernel_rfl))).trans (hF 16 (by decide))
      clear hρ hF hcst hfun sl6 sl10 sl12 sl13 fin
      exact opv_val (by go_simp <;> rfl) ⟨gw_self _, rfl⟩
    · refine owes_vt 9 false (Go.Op.load 4 (Go.Operand.tmp 104)) 4 [17] (by kernel_rfl) (by kernel_rfl) (by kernel_rfl) (fun _ _ h => h) (by rw [hsz]; kernel_rfl) (by kernel_rfl) rfl fun vals w1 ρ hG hF hρ hcst hfun => ?_
      have e104 : ρ (.tmp 104) = .pointer (some ⟨q, n, none⟩) := ((hρ 104).trans (slotJ [17] (by rw [hsz]; decide) (by kernel_rfl))).trans (hF 17 (by decide))
      have d0 := hr0.out w1 hG
      clear hρ hF hcst hfun sl6 sl10 sl12 sl13 fin
      exact opv_val (by go_simp <;> rfl) ⟨gw_self _, rfl⟩
    · refine owes_vt 9 false (Go.Op.binOp Go.BinOp.neq 4 (Go.Operand.tmp 101) (Go.Operand.tmp 105) 4) 4 [14, 18] (by kernel_rfl) (by kernel_rfl) (by kernel_rfl) (fun _ _ h => h) (by rw [hsz]; kernel_rfl) (by kernel_rfl) rfl fun vals w1 ρ hG hF hρ hcst hfun => ?_
      have e101 : ρ (.tmp 101) = .bool (decide ((0 : Int) < z)) := ((hρ 101).trans (slotJ [14, 18] (by rw [hsz]; decide) (by kernel_rfl))).trans (hF 14 (by decide))
      have e105 : ρ (.tmp 105) = .bool (decide ((k : Int) ≤ (n : Int) + 1)) := ((hρ 105).trans (slotJ [14, 18] (by rw [hsz]; decide) (by kernel_rfl))).trans (hF 18 (by decide))
      rw [hz.out] at e101
      clear hρ hF hcst hfun sl6 sl10 sl12 sl13 fin
      exact opv_val (by go_simp <;> rfl) ⟨gw_self _, rfl⟩
    · refine owes_v (Go.Op.pick (Go.Operand.tmp 96) (Go.Operand.const (Go.Value.bool true)) (Go.Operand.tmp 106)) 4 [9, 19] (by kernel_rfl) (by kernel_rfl) (by kernel_rfl) rfl fun vals w1 ρ hG hF hρ hcst hfun => ?_
      have e96 : ρ (.tmp 96) = .bool false := ((hρ 96).trans (slotJ [9, 19] (by rw [hsz]; decide) (by kernel_rfl))).trans (hF 9 (by decide))
      have e106 : ρ (.tmp 106) = .bool false := ((hρ 106).trans (slotJ [9, 19] (by rw [hsz]; decide) (by kernel_rfl))).trans (hF 19 (by decide))
      clear hρ hF hfun sl6 sl10 sl12 sl13 fin
      exact opv_val (by go_simp <;> rfl) ⟨gw_self _, rfl⟩
  · intro vals w1 hG hF
    exact fin vals w1 hG (hF 20 (by decide +kernel))
theorem chains_walk (w : World) (a : Int) (wa : (Lit.int .u8 a).wf = true) (b : Int) (wb : (Lit.int .u8 b).wf = true) : Calls Try.prog 6 #[.int .u8 a, .int .u8 b] w (TruP (.bool true) w) := by
  obtain ⟨a, rfl, ha⟩ := wf8 wa
  obtain ⟨b, rfl, hb⟩ := wf8 wb
  clear wa wb
  go_enter Try.func6, Try.ntmps6
  go_wp2_with fail
  refine Calls.mono (known17_c _) ?_
  rintro r w1 ⟨rfl, b1⟩
  have HB := Lib.hid b1
  clear b1
  go_wp2_with fail
  obtain ⟨m, hm, hm1⟩ : ∃ m : Nat, 1 + (a : Int) % 50 = (m : Int) ∧ 1 ≤ m ∧ m ≤ 50 := ⟨1 + a % 50, by omega, by omega, by omega⟩
  rw [hm]
  have hq0 : 0 ≤ (b : Int) % (m : Int) := Int.emod_nonneg _ (by omega)
  have hq1 : (b : Int) % (m : Int) < (m : Int) := Int.emod_lt_of_pos _ (by omega)
  obtain ⟨k, hk, hk1, hk2⟩ : ∃ k : Nat, wrap64 (1 + (b : Int) % (m : Int)) = (k : Int) ∧ 1 ≤ k ∧ k ≤ m := ⟨(1 + (b : Int) % (m : Int)).toNat, by unfold wrap64; omega, by omega, by omega⟩
  rw [hk]
  obtain ⟨gb, hgb⟩ : ∃ gb, gb = w1.heap.size := ⟨_, rfl⟩
  obtain ⟨w2, hw2⟩ : ∃ w2, w2 = w1.alloc (.cells #[.slice none 0 0, .slice none 0 0] 25) := ⟨_, rfl⟩
  have H2 := Lib.hid (show Bk w2 gb 25 #[.slice none 0 0, .slice none 0 0] ∧ Below w.heap.size w w2 ∧ w.heap.size ≤ gb from by
    rw [hw2, hgb]
    exact ⟨Bk.new _ _ _, HB.out.trans ((Gw.alloc w1 _).mono HB.out.size), HB.out.size⟩)
  rw [← hgb, ← hw2]
  clear HB hgb hw2 hm hk hq0 hq1 ha hb
  have hmb := hm1.2
  have hma := hm1.1
  clear hm1
  go_loopw [8] (fun i W => ∃ (j : Nat) (A : Option Addr) (c : Nat) (xs : List Nv), i = .int .i64 ((j : Int) + 1) ∧ j ≤ m ∧ ChS m gb w2 W j A c xs) (fun i _ => m + 1 - (Go.RowKit.intOf i).toNat)
  case atStart =>
    refine ⟨0, none, 0, [], rfl, Nat.zero_le _, rfl, rfl, NOwn.nil _ _, H2.out.1, Kept.refl _ _, H2.out.1.lt⟩
  case round =>
    obtain ⟨j, A, c, xs, rfl, hj, hS⟩ := hrel
    have HS := Lib.hid hS
    have hgl := hS.lt
    have hgl2 : gb < wr.heap.size := Nat.lt_of_lt_of_le hS.lt hS.kp.size
    have hws : w2.heap.size ≤ wr.heap.size := hS.kp.size
    by_cases hlt : j < m
    · have p1 : (0 : Int) ≤ (j : Int) := by omega
      have p2 : (j : Int) + 1 ≤ (m : Int) := by omega
      have e0 := hS.bk.two.1
      have e1 := hS.bk.two.2
      have hrow := hS.own.row
      rw [hS.len] at hrow
      have HRow := Lib.hid hrow
      have HG := Lib.hid (And.intro hgl hws)
      obtain ⟨i0, hi, hz0, hz1, hz2⟩ := info_parts infoN
      have HI := Lib.hid (And.intro hi (And.intro hz0 (And.intro hz1 hz2)))
      clear hS hrow hi hz0 hz1 hz2 hgl hws
      by_cases hl : j + 1 = m
      · have p3 : (j : Int) + 1 = (m : Int) := by omega
        have HW := Lib.hid (chw wr w2.heap.size HG.out.2 0)
        have HZ := Lib.hid (show chP m j = [0] from by unfold chP; rw [if_pos hl])
        clear hl
        go_wp2_with (at_builtin; refine wp_appR 2 i0 Try.underlying22 HI.out.1 HI.out.2.1 HI.out.2.2.1 HI.out.2.2.2 (by rfl) (by decide) rfl (.tmp 42) (.tmp 44) rfl w2.heap.size _ j _ rfl (ownsRow_below HRow.out HW.out.bl) ⟨wr.heap.size + 2, 0, none⟩ 1 1 [.slice (some ⟨wr.heap.size, 0, none⟩) 1 1, .slice none 0 0] rfl rfl HW.out.nw (ch_one _) (by unfold maxLen; omega) (by omega) HW.out.ge ?_; intro v5 w5 ho5 hb5 hg5 hv5; obtain ⟨A5, c5, rfl⟩ := own_form ho5; obtain ⟨hQ5, hS5⟩ := ch_step HS.out rfl HZ.out HW.out.bl HW.out.ow ho5 hb5 hg5 hv5; have q50 := hQ5.two.1; have q5f := hQ5.free 0; have H5 := Lib.hid hS5; clear ho5 hb5 hg5 hv5 hQ5 hS5)
        have X : ∃ (j' : Nat) (A' : Option Addr) (c' : Nat) (xs' : List Nv), (Value.int .i64 ((m : Int) + 1)) = .int .i64 ((j' : Int) + 1) ∧ j' ≤ m ∧ ChS m gb w2 (w5.setCell ⟨gb, 0, none⟩ (.slice A5 (j + 1) c5)) j' A' c' xs' := ⟨j + 1, A5, c5, _, by rw [show (((j + 1 : Nat)) : Int) = (m : Int) from by omega], by omega, H5.out⟩
        clear q50 q5f H5
        go_roundw
        case rel => exact X
        case measure => simp [Go.RowKit.intOf]; omega
      · have p3 : ¬ (j : Int) + 1 = (m : Int) := by omega
        have HW := Lib.hid (chw wr w2.heap.size HG.out.2 ((j : Int) + 1 + 1))
        have HZ := Lib.hid (show chP m j = [(j : Int) + 1 + 1] from by unfold chP; rw [if_neg hl]; congr 1)
        clear hl
        go_wp2_with (at_builtin; refine wp_appR 2 i0 Try.underlying22 HI.out.1 HI.out.2.1 HI.out.2.2.1 HI.out.2.2.2 (by rfl) (by decide) rfl (.tmp 42) (.tmp 44) rfl w2.heap.size _ j _ rfl (ownsRow_below HRow.out HW.out.bl) ⟨wr.heap.size + 2, 0, none⟩ 1 1 [.slice (some ⟨wr.heap.size, 0, none⟩) 1 1, .slice none 0 0] rfl rfl HW.out.nw (ch_one _) (by unfold maxLen; omega) (by omega) HW.out.ge ?_; intro v5 w5 ho5 hb5 hg5 hv5; obtain ⟨A5, c5, rfl⟩ := own_form ho5; obtain ⟨hQ5, hS5⟩ := ch_step HS.out rfl HZ.out HW.out.bl HW.out.ow ho5 hb5 hg5 hv5; have q50 := hQ5.two.1; have q5f := hQ5.free 0; have H5 := Lib.hid hS5; clear ho5 hb5 hg5 hv5 hQ5 hS5)
        have X : ∃ (j' : Nat) (A' : Option Addr) (c' : Nat) (xs' : List Nv), (Value.int .i64 ((j : Int) + 1 + 1)) = .int .i64 ((j' : Int) + 1) ∧ j' ≤ m ∧ ChS m gb w2 (w5.setCell ⟨gb, 0, none⟩ (.slice A5 (j + 1) c5)) j' A' c' xs' := ⟨j + 1, A5, c5, _, by go_num, by omega, H5.out⟩
        clear q50 q5f H5
        go_roundw
        case rel => exact X
        case measure => simp [Go.RowKit.intOf]; omega
    · have hjm : j = m := by omega
      subst hjm
      have HC := Lib.hid (show Calls Try.prog 13 #[.agg #[.slice A j c, .slice none 0 0], .slice (some ⟨wr.heap.size, 0, none⟩) 1 1] (wr.alloc (.cells #[.int .i64 k] 3)) _ from by
        have kk := reach_c (wr.alloc (.cells #[.int .i64 k] 3)) ⟨A, c, none, 0, xs, []⟩ (ch_at (hS.own.below (Gw.alloc _ _))) (ch_small hS.len hmb hS.map) (some ⟨wr.heap.size, 0, none⟩) 1 [(k : Int)] ((Bk.new wr 3 #[iV (k : Int)]).rd rfl (by simp)) (by simp)
        rw [show (⟨A, c, none, 0, xs, []⟩ : Gv).v = .agg #[.slice A j c, .slice none 0 0] from by show Value.agg #[.slice A xs.length c, .slice none 0 0] = _; rw [hS.len]] at kk
        exact kk)
      have e0 := hS.bk.two.1
      have e1 := hS.bk.two.2
      have HG := Lib.hid (And.intro hgl hws)
      clear hS hgl hws
      go_wp2_with fail
      refine Calls.mono HC.out ?_
      rintro r w9 ⟨q, L, rfl, ho, hLl, hL, b9⟩
      have hLc : L = chL j k := seen_ch (hLl.trans HS.out.len) (fun p hp => (hL p (by show hasG xs.length p = true; rw [HS.out.len]; exact hp)).trans (ch_rch HS.out.map hk1 hk2 p hp))
      have hqn : xs.length = j := HS.out.len
      rw [hqn] at ho ⊢
      have b9' : Below wr.heap.size wr w9 := (Gw.alloc wr _).trans (b9.mono (by simp))
      rw [hLc] at ho
      have HR9 := Lib.hid (And.intro ho b9')
      have e0 := (HS.out.bk.below b9' hgl2).two.1
      have e1 := (HS.out.bk.below b9' hgl2).two.2
      have hgl9 : gb < w9.heap.size := Nat.lt_of_lt_of_le hgl2 b9'.size
      have HC2 := Lib.hid (show Calls Try.prog 15 #[.agg #[.slice A j c, .slice none 0 0], .slice (some ⟨w9.heap.size, 0, none⟩) 1 1] (w9.alloc (.cells #[.int .i64 k] 3)) _ from by
        have kk := trim_g (w9.alloc (.cells #[.int .i64 k] 3)) ⟨A, c, none, 0, xs, []⟩ (ch_at ((HS.out.own.below b9').below (Gw.alloc _ _))) (ch_small HS.out.len hmb HS.out.map) (by simp) (fun x hx p hp => by
          have hm : x.m ∈ xs.map Nv.m := List.mem_map.2 ⟨x, hx, rfl⟩
          rw [HS.out.map] at hm
          obtain ⟨i, hi, e⟩ := List.mem_map.1 hm
          have hi := List.mem_range.1 hi
          unfold Nv.m at e
          injection e with e1 e2
          rw [← e1] at hp
          unfold chP at hp
          refine wfI ?_ ?_
          all_goals split at hp
          all_goals (have hp := List.mem_singleton.1 hp; omega)) (by simp) (some ⟨w9.heap.size, 0, none⟩) 1 [(k : Int)] ((Bk.new w9 3 #[iV (k : Int)]).rd rfl (by simp)) (by simp)
        rw [show (⟨A, c, none, 0, xs, []⟩ : Gv).v = .agg #[.slice A j c, .slice none 0 0] from by show Value.agg #[.slice A xs.length c, .slice none 0 0] = _; rw [HS.out.len]] at kk
        exact kk)
      clear ho hLl hL b9 hLc hqn b9' HC
      go_wp2_with fail
      refine Calls.mono HC2.out ?_
      rintro r w10 ⟨L2, g', q2, rfl, hn1, hr1, ht, hmp, hrr, hL2l, hL2, b10⟩
      have hLc2 : L2 = chL j k := seen_ch (hL2l.trans HS.out.len) (fun p hp => (hL2 p (by show hasG xs.length p = true; rw [HS.out.len]; exact hp)).trans (ch_rch HS.out.map hk1 hk2 p hp))
      subst hLc2
      have b10' : Below w9.heap.size w9 w10 := (Gw.alloc w9 _).trans (b10.mono (by simp))
      obtain ⟨A', c', A2', c2', n', r'⟩ := g'
      have hr0 : r' = [] := hrr
      subst hr0
      have hqn : xs.length = j := HS.out.len
      rw [hqn] at ht
      have hqn := Lib.hid hqn
      obtain ⟨N', hN'⟩ : ∃ N', N' = n'.length := ⟨_, rfl⟩
      have hlen : N' = j + 1 - k := by
        have h1 := congrArg List.length hmp
        rw [List.length_map, trimN_len _ _ _ (by rw [hL2l])] at h1
        rw [hN', ← ch_count j k hk1]
        exact h1
      have hea : ∀ x ∈ n', x.ps.length = 1 ∧ x.bs = [] := fun x hx => by
        have h1 : x.m ∈ n'.map Nv.m := List.mem_map.2 ⟨x, hx, rfl⟩
        have h2 : n'.map Nv.m = trimN (pairsB (chL j k) 0 0) xs (chL j k) := hmp
        rw [h2] at h1
        exact trimN_each _ _ _ (ch_each HS.out.map) _ h1
      have hwl : wordsL n' = 2 * (N' : Int) := by rw [hN']; exact words_ch _ hea
      have hv : (⟨A', c', A2', c2', n', []⟩ : Gv).v = .agg #[.slice A' N' c', .slice A2' 0 c2'] := by
        show Value.agg #[.slice A' n'.length c', .slice A2' 0 c2'] = _
        rw [hN']
      have hrw := hn1.rows
      have HCw := Lib.hid (show Calls Try.prog 19 #[.agg #[.slice A' N' c', .slice A2' 0 c2']] (w10.alloc (.cells #[.slice A' N' c', .slice A2' 0 c2'] 25)) (RetP (.int .i64 (2 * (N' : Int))) (w10.alloc (.cells #[.slice A' N' c', .slice A2' 0 c2'] 25))) from by
        have kk := words_c (w10.alloc (.cells #[.slice A' N' c', .slice A2' 0 c2'] 25)) ⟨A', c', A2', c2', n', []⟩ ⟨((hn1.below (Gw.alloc _ _))).rows.1, fun i hi => absurd hi (by simp), hrw.2.2, Nat.zero_le _⟩ ⟨by show n'.length ≤ _; omega, by simp, fun x hx => by rw [(hea x hx).1, (hea x hx).2]; simp⟩
        rw [hwl, hv] at kk
        exact kk)
      rw [hqn.out, hv]
      have HT := Lib.hid (And.intro ht b10')
      have p5 : (j : Int) - (k : Int) + 1 = (N' : Int) := by omega
      have p6 : (N' : Int) ≤ 50 := by omega
      clear hn1 hr1 ht hmp hrr hL2l hL2 b10 b10' hrw hwl hv hea hlen hN' hqn e0 e1 HC2
      go_wp2_with fail
      refine Calls.mono HCw.out ?_
      rintro r w11 ⟨rfl, b11⟩
      have b12 : Below w.heap.size w w11 := by
        obtain ⟨x1, x2, x3⟩ := H2.out
        have y1 : Below w.heap.size w wr := x2.trans (HS.out.kp.below x2.size (fun c e => by rw [e]; exact x3))
        have y2 := y1.trans (HR9.out.2.mono y1.size)
        have y3 := y2.trans (HT.out.2.mono y2.size)
        have y4 := y3.trans ((Gw.alloc w10 (.cells #[.slice A' N' c', .slice A2' 0 c2'] 25)).mono y3.size)
        exact y4.trans (b11.mono y4.size)
      have HB12 := Lib.hid b12
      have t11 := (HT.out.1.alloc (.cells #[.slice A' N' c', .slice A2' 0 c2'] 25)).below b11
      have r11 := ((HR9.out.1.below HT.out.2).alloc (.cells #[.slice A' N' c', .slice A2' 0 c2'] 25)).below b11
      have HTR := Lib.hid (And.intro t11 r11)
      clear b12 t11 r11 b11
      go_wp2_with fail
      go_loopw [13] (fun i W => ∃ (n : Nat), i = .int .i64 n ∧ n ≤ j ∧ Below w11.heap.size w11 W) (fun i _ => j - (Go.RowKit.intOf i).toNat)
      case atStart => exact ⟨0, rfl, Nat.zero_le _, Below.refl _ _⟩
      case round =>
        obtain ⟨n, rfl, hn, hB⟩ := hrel
        have HBn := Lib.hid hB
        by_cases hlt : n < j
        · have hnL : n < (chL j k).length := by rw [show (chL j k).length = j from by simp [chL]]; exact hlt
          obtain ⟨y, hy⟩ : ∃ y, y = (chL j k)[n] := ⟨_, rfl⟩
          have r0 : wr.cell? ⟨q, n, none⟩ = some (.bool y) := by rw [hy]; exact (HTR.out.2.below hB).cell hnL
          obtain ⟨z, hz⟩ : ∃ z, z = (if y = true then ((0 + ((chL j k).take n).count true : Nat) : Int) + 1 else 0) := ⟨_, rfl⟩
          have r1 : wr.cell? ⟨q2, n, none⟩ = some (.int .i64 z) := by
            have hkt : n < (toB (chL j k) 0).length := by rw [toB_len]; exact hnL
            have h1 := (HTR.out.1.below hB).cell hkt
            have h2 := toB_get (chL j k) n hnL 0
            rw [List.getElem?_eq_getElem hkt, ← hy, ← hz] at h2
            injection h2 with h2
            rw [h2] at h1
            exact h1
          have hyk : y = decide (k ≤ n + 1) := by rw [hy]; simp [chL]
          have p1 : (0 : Int) ≤ (n : Int) := by omega
          have p2 : (n : Int) < (j : Int) := by omega
          have hzz : decide ((0 : Int) < z) = decide ((k : Int) ≤ (n : Int) + 1) := by
            rw [hz, hyk]
            by_cases c : k ≤ n + 1
            · rw [if_pos (by simpa using c), decide_eq_true (by omega), decide_eq_true (by omega)]
            · rw [if_neg (by simpa using c), decide_eq_false (by omega), decide_eq_false (by omega)]
          have hyk2 : y = decide ((k : Int) ≤ (n : Int) + 1) := by
            rw [hyk]
            by_cases c : k ≤ n + 1
            · rw [decide_eq_true c, decide_eq_true (by omega)]
            · rw [decide_eq_false c, decide_eq_false (by omega)]
          rw [hyk2] at r0
          have HR0 := Lib.hid (fun (W : World) (b : Below wr.heap.size wr W) => (b.cell (cell_lt r0)).trans r0)
          have HR1 := Lib.hid (fun (W : World) (b : Below wr.heap.size wr W) => (b.cell (cell_lt r1)).trans r1)
          have HZ := Lib.hid hzz
          have hj50 : (j : Int) ≤ 50 := by omega
          clear hB hnL hy hz hzz hyk hyk2 r0 r1
          go_wp2_with fail
          refine chain_r _ _ _ q q2 n j k z HR0 HR1 HZ p1 p2 hj50 rfl rfl rfl rfl rfl ?_
          intro vals w13 hG h107
          unfold IsV at h107
          simp only [putD, Act.put, List.setIfInBounds_toArray, List.set_cons_zero, List.set_cons_succ, h107]
          have HBm := Lib.hid (HBn.out.trans (hG.mono HBn.out.size))
          clear hG h107
          go_wp2_with fail
          go_roundw
          case rel => exact ⟨n + 1, by go_num, by omega, HBm.out⟩
          case measure => simp [Go.RowKit.intOf]; omega
        · have HB13 := Lib.hid (HB12.out.trans (hB.mono HB12.out.size))
          clear hB
          have hnj : n = j := by omega
          subst hnj
          go_wp2_with fail
          go_ret
          exact ⟨rfl, HB13.out⟩
end Go.Proofs.Ytidaimcndbhefaa
namespace Go.Proofs.Ytidaimcndbhefaa.graphChains
open Go.ChangeShapes Go.WideShapes Go.ChangeAt Go.RowKit
open Go.ChangeMaps (open_string shut_string)
set_option linter.unusedVariables false
set_option maxRecDepth 100000 in
theorem lifted (os : Os) (started : os.Started) (H : Type) (enc : TypeId × Value → H) :
    ReturnsInHanded {} Try.checked os 6 .any (Rows.graphChainsSpec.pre6 enc Try.prog Try.f6 Rows.graphChainsRow.domain false) (Rows.graphChainsSpec.post enc Try.prog Try.f6 false true false false) := by
  refine returnsInHanded_of_change (C := Try.checked) own started (by kernel_rfl) Try.func6
    (ChangeSpec.witness6 (enc := enc) (C := Try.checked) false ⟨#[], #[.int .u8 0, .int .u8 0], []⟩ 8 (by kernel_rfl) (by kernel_rfl) (by kernel_rfl) (by kernel_rfl)) ?_
  intro W base args ds gs before hval0 hW hcnd _
  have hval : ∀ (j : Nat) t v, Try.f6.params[j]? = some t → args[j]? = some v → Value.okWide Try.prog W .any base t v := hval0
  have hW' := hW
  obtain ⟨p, q, hA0, hV, rfl, hfz, hnd⟩ := hW
  have hA : DataW.TrodAll enc Try.prog W 0 (fun _ => true) true Try.f6.params.toList args.toList ds p := hA0
  rw [Try.params6] at hA hval
  obtain ⟨v0, vs0, d0, ds0, p0, q0, hargs, rfl, rfl, h0, r0⟩ := trodAll_cons hA
  obtain ⟨v1, vs1, d1, ds1, p1, q1, rfl, rfl, rfl, h1, r1⟩ := trodAll_cons r0
  obtain ⟨rfl, rfl, rfl⟩ := trodAll_nil r1
  obtain rfl : args = #[v0, v1] := by cases args; simp_all
  obtain ⟨rfl, rfl⟩ := trodVars_none hV
  have k0 := h0
  have lt0 : ∀ x ∈ p0, x.block < W.heap.size := by obtain ⟨m, hm⟩ := k0; exact DataW.trod_lt m _ _ _ hm
  obtain ⟨a0, e0v, _, _, w0⟩ := open_int Try.underlying5 (hval 0 5 v0 rfl rfl) h0; subst e0v
  have k1 := h1
  have lt1 : ∀ x ∈ p1, x.block < W.heap.size := by obtain ⟨m, hm⟩ := k1; exact DataW.trod_lt m _ _ _ hm
  obtain ⟨a1, e1v, _, _, w1⟩ := open_int Try.underlying5 (hval 1 5 v1 rfl rfl) h1; subst e1v
  clear hA0 hval0
  refine (chains_walk W a0 w0 a1 w1).mono fun e W' ⟨he, bel⟩ => ?_
  subst he
  exact ⟨_, rfl, _, _, _, [], _, [], hW', trodAll_mk1 (shut_bool Try.underlying4 _), (trodAll_cons_mk (Below.trod laidOut (by kernel_rfl) (of_decide_eq_true (by kernel_rfl)) k0 bel lt0) (trodAll_cons_mk (Below.trod laidOut (by kernel_rfl) (of_decide_eq_true (by kernel_rfl)) k1 bel lt1) trodAll_mk0)), rfl, bel.frame _, fun h => by cases h⟩
theorem over : Rows.graphChainsRow.holds Try.pinned (OpenSpec.ofChange Rows.graphChainsSpec) :=
  OpenClaim.holds_of_wide 6 Try.f6 rfl rfl rfl rfl rfl rfl rfl ⟨rfl, rfl, rfl, rfl, rfl⟩ rfl rfl rfl rfl rfl (by kernel_rfl) Try.func6 (by kernel_rfl)
    (of_decide_eq_true (by kernel_rfl)) (by unfold Func.isWrapper; first | (rw [if_pos (by decide +kernel)]; kernel_rfl) | (rw [if_neg (by decide +kernel)]; exact ⟨rfl, rfl⟩))
    (fun os started H enc _ => lifted os started H enc)
theorem proved : Rows.GraphChainsSaid := over
end Go.Proofs.Ytidaimcndbhefaa.graphChains
