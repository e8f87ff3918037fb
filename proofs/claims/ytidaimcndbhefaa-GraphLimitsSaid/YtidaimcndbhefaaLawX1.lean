/- The law GraphLimits of layer 17 returns true for every argument. No conditions. -/
import Derived.Test.YtidaimcndbhefaaGrK
namespace Go.Proofs.Ytidaimcndbhefaa
set_option linter.unusedVariables false
set_option linter.unusedSimpArgs false
open Go.RowKit Go.Maps
theorem Ow.rd2 {α : Type} {f : α → Value} {E : TypeId} {w : World} {base n c : Nat} {A : Option Addr} {xs : List α} (h : Ow f E w base (.slice A n c) xs) : Rd f w w.heap.size A xs := by
  obtain ⟨A', c', e, _⟩ := h.form
  injection e with e1 e2 e3
  subst e2
  exact h.rd
/-- A row that was made. -/
def MkV {α : Type} (f : α → Value) (E : TypeId) (n : Nat) (xs : List α) (v : Value) (w : World) : Prop := ∃ q, v = .slice (some ⟨q, 0, none⟩) n n ∧ Ow f E w 0 (.slice (some ⟨q, 0, none⟩) n n) xs
theorem MkV.mono {α : Type} {f : α → Value} {E : TypeId} {n : Nat} {xs : List α} {v : Value} {a b : World} (h : MkV f E n xs v a) (g : Below a.heap.size a b) : MkV f E n xs v b := by
  obtain ⟨q, e, h⟩ := h
  exact ⟨q, e, h.below g⟩
/-- A node's value that the call itself made. -/
def NodV (P B : Nat) (v : Value) (w : World) : Prop := ∃ qa qd, v = .agg #[.slice (some ⟨qa, 0, none⟩) P P, .slice (some ⟨qd, 0, none⟩) B B] ∧ Ow iV 3 w 0 (.slice (some ⟨qa, 0, none⟩) P P) (List.replicate P 0) ∧ Ow b8 5 w 0 (.slice (some ⟨qd, 0, none⟩) B B) (List.replicate B 0#8)
theorem NodV.mono {P B : Nat} {v : Value} {a b : World} (h : NodV P B v a) (g : Below a.heap.size a b) : NodV P B v b := by
  obtain ⟨qa, qd, e, h3, h4⟩ := h
  exact ⟨qa, qd, e, h3.below g, h4.below g⟩
def RowV (P B : Nat) (v : Value) (w : World) : Prop := ∃ q qa qd, v = .slice (some ⟨q, 0, none⟩) 1 1 ∧ Bk w q 53 #[.slice (some ⟨qa, 0, none⟩) P P, .slice (some ⟨qd, 0, none⟩) B B] ∧ Ow iV 3 w 0 (.slice (some ⟨qa, 0, none⟩) P P) (List.replicate P 0) ∧ Ow b8 5 w 0 (.slice (some ⟨qd, 0, none⟩) B B) (List.replicate B 0#8)
theorem RowV.mono {P B : Nat} {v : Value} {a b : World} (h : RowV P B v a) (g : Below a.heap.size a b) : RowV P B v b := by
  obtain ⟨q, qa, qd, e, hb, h3, h4⟩ := h
  exact ⟨q, qa, qd, e, hb.below g hb.lt, h3.below g, h4.below g⟩
def GraV (P B : Nat) (v : Value) (w : World) : Prop := ∃ u, v = .agg #[u, .slice none 0 0] ∧ RowV P B u w
theorem GraV.mono {P B : Nat} {v : Value} {a b : World} (h : GraV P B v a) (g : Below a.heap.size a b) : GraV P B v b := by
  obtain ⟨u, e, h⟩ := h
  exact ⟨u, e, h.mono g⟩
def PtrV (B0 : Nat) (v : Value) (w : World) : Prop := ∃ k, v = .pointer (some ⟨k, 0, none⟩) ∧ B0 ≤ k ∧ Bk w k 25 #[.slice none 0 0, .slice none 0 0]
theorem PtrV.mono {B0 : Nat} {v : Value} {a b : World} (h : PtrV B0 v a) (g : Below a.heap.size a b) : PtrV B0 v b := by
  obtain ⟨k, e, h0, h⟩ := h
  exact ⟨k, e, h0, h.below g h.lt⟩
set_option maxHeartbeats 4000000
set_option maxRecDepth 100000
theorem lim_r (Q : Exit → Act → World → Prop) (a0 : Act) (w : World) (P B : Nat) (hP : (P : Int) ≤ 1000) (hB : (B : Int) ≤ 2000) (hsz : a0.tmps.size = 81) (sl0 : a0.tmps.getD 0 undef = .int .i64 P) (sl1 : a0.tmps.getD 1 undef = .int .i64 B)
    (fin : ∀ (vals : Nat → Value) (w1 : World), Below w.heap.size w w1 → (GraV P B) (vals 6) w1 → (PtrV w.heap.size) (vals 7) w1 → wpList Try.prog #[{ dst := none, op := Go.Op.store 25 (Go.Operand.tmp 7) (Go.Operand.tmp 40), type := 0, pos := "", after := #[], guard := none }] Q [{ dst := none, op := Go.Op.store 25 (Go.Operand.tmp 7) (Go.Operand.tmp 40), type := 0, pos := "", after := #[], guard := none }] (putD vals [34, 35, 36, 37, 38, 39, 40, 7] 0 a0) w1) :
    (Code.region 5 (regIn Try.f7 5) true).wp Try.prog Q a0 w := by
  refine region_by_tail (m := 8) (G := fun w w1 => Below w.heap.size w w1) [IsV (.int .i64 P),
    MkV iV 3 P (List.replicate P 0),
    IsV (.int .i64 B),
    MkV b8 5 B (List.replicate B 0#8),
    NodV P B,
    RowV P B,
    GraV P B,
    PtrV w.heap.size]
    [34, 35, 36, 37, 38, 39, 40, 7] (by kernel_rfl) (Gw.drew _) Gw.trans (by rw [hsz]; kernel_rfl) (by kernel_rfl) ?_ ?_ ?_
  · intro f hf
    simp only [List.mem_cons, List.not_mem_nil, or_false] at hf
    rcases hf with rfl | rfl | rfl | rfl | rfl | rfl | rfl | rfl <;> intro v a b h g <;> first | exact IsV.mono h | exact NodV.mono h g | exact RowV.mono h g | exact GraV.mono h g | exact PtrV.mono h g | exact MkV.mono h g
  · refine ⟨?_, ?_, ?_, ?_, ?_, ?_, ?_, ?_, trivial⟩
    · exact owes_mv 0 (by kernel_rfl) (by kernel_rfl) (by kernel_rfl) sl0 (fun _ => rfl)
    · refine owes_v (Go.Op.makeSlice 26 (Go.Operand.tmp 34) (Go.Operand.tmp 34)) 26 [0] (by kernel_rfl) (by kernel_rfl) (by kernel_rfl) rfl fun vals w1 ρ hG hF hρ hcst hfun => ?_
      have e34 : ρ (.tmp 34) = .int .i64 P := ((hρ 34).trans (slotJ [0] (by rw [hsz]; decide) (by kernel_rfl))).trans (hF 0 (by decide))
      clear hρ hF hcst hfun sl0 sl1 fin
      exact opv_make (f := iV) oneI 0 rfl e34 (by omega) (by decide) fun w2 ho hb => ⟨hb, _, rfl, ho.mono (Nat.zero_le _)⟩
    · exact owes_mv 1 (by kernel_rfl) (by kernel_rfl) (by kernel_rfl) sl1 (fun _ => rfl)
    · refine owes_v (Go.Op.makeSlice 51 (Go.Operand.tmp 36) (Go.Operand.tmp 36)) 51 [2] (by kernel_rfl) (by kernel_rfl) (by kernel_rfl) rfl fun vals w1 ρ hG hF hρ hcst hfun => ?_
      have e36 : ρ (.tmp 36) = .int .i64 B := ((hρ 36).trans (slotJ [2] (by rw [hsz]; decide) (by kernel_rfl))).trans (hF 2 (by decide))
      clear hρ hF hcst hfun sl0 sl1 fin
      exact opv_make (f := b8) one8 0#8 rfl e36 (by omega) (by decide) fun w2 ho hb => ⟨hb, _, rfl, ho.mono (Nat.zero_le _)⟩
    · refine owes_v (Go.Op.build 53 #[(0, Go.Operand.tmp 35), (1, Go.Operand.tmp 37)]) 53 [1, 3] (by kernel_rfl) (by kernel_rfl) (by kernel_rfl) rfl fun vals w1 ρ hG hF hρ hcst hfun => ?_
      have f35 : (MkV iV 3 P (List.replicate P 0)) (vals 1) w1 := hF 1 (by decide)
      have e35 : ρ (.tmp 35) = vals 1 := (hρ 35).trans (slotJ [1, 3] (by rw [hsz]; decide) (by kernel_rfl))
      have f37 : (MkV b8 5 B (List.replicate B 0#8)) (vals 3) w1 := hF 3 (by decide)
      have e37 : ρ (.tmp 37) = vals 3 := (hρ 37).trans (slotJ [1, 3] (by rw [hsz]; decide) (by kernel_rfl))
      obtain ⟨qa, ha35, ha⟩ := f35
      obtain ⟨qd, hd37, hd⟩ := f37
      rw [ha35] at e35
      rw [hd37] at e37
      clear hρ hF hcst hfun sl0 sl1 fin
      exact opv_val (by go_simp <;> rfl) ⟨gw_self _, qa, qd, rfl, ha, hd⟩
    · refine owes_v (Go.Op.buildSlice 22 1 #[(0, Go.Operand.tmp 38)]) 22 [4] (by kernel_rfl) (by kernel_rfl) (by kernel_rfl) rfl fun vals w1 ρ hG hF hρ hcst hfun => ?_
      have f38 : (NodV P B) (vals 4) w1 := hF 4 (by decide)
      have e38 : ρ (.tmp 38) = vals 4 := (hρ 38).trans (slotJ [4] (by rw [hsz]; decide) (by kernel_rfl))
      obtain ⟨qa, qd, h38, h1, h2⟩ := f38
      rw [h38] at e38
      clear hρ hF hcst hfun sl0 sl1 fin
      exact opv_val (by go_simp <;> rfl) ⟨Gw.alloc _ _, ⟨_, qa, qd, rfl, Bk.new w1 _ _, h1.alloc _, h2.alloc _⟩⟩
    · refine owes_v (Go.Op.build 25 #[(0, Go.Operand.tmp 39)]) 25 [5] (by kernel_rfl) (by kernel_rfl) (by kernel_rfl) rfl fun vals w1 ρ hG hF hρ hcst hfun => ?_
      have f39 : (RowV P B) (vals 5) w1 := hF 5 (by decide)
      have e39 : ρ (.tmp 39) = vals 5 := (hρ 39).trans (slotJ [5] (by rw [hsz]; decide) (by kernel_rfl))
      obtain ⟨q39, qa, qd, h39, r39⟩ := f39
      rw [h39] at e39
      clear hρ hF hcst hfun sl0 sl1 fin
      exact opv_val (by go_simp <;> rfl) ⟨gw_self _, _, rfl, q39, qa, qd, rfl, r39⟩
    · refine owes_v (Go.Op.alloc 25) 0 [] (by kernel_rfl) (by kernel_rfl) (by kernel_rfl) rfl fun vals w1 ρ hG hF hρ hcst hfun => ?_
      clear hρ hF hcst hfun sl0 sl1 fin
      exact opv_val (by go_simp <;> rfl) ⟨Gw.alloc _ _, ⟨_, rfl, hG.size, Bk.new w1 _ _⟩⟩
  · intro vals w1 hG hF
    exact last_list (by kernel_rfl) (by kernel_rfl) (by kernel_rfl) (fin vals w1 hG (hF 6 (by decide +kernel)) (hF 7 (by decide +kernel)))
def nmT (k : Nat) : List (BitVec 8) := [110#8, BitVec.ofNat 8 (97 + k / 10), BitVec.ofNat 8 (48 + k % 10)]
theorem nmT_1 (k : Nat) (h : k < 72) : U8 (BitVec.ofNat 8 (97 + k / 10)) = 97 + (k : Int) / 10 := by
  unfold U8; rw [BitVec.toNat_ofNat]; omega
theorem nmT_2 (k : Nat) (h : k < 72) : U8 (BitVec.ofNat 8 (48 + k % 10)) = 48 + (k : Int) % 10 := by
  unfold U8; rw [BitVec.toNat_ofNat]; omega
theorem n_app (x y : BitVec 8) : (⟨#[110]⟩ : ByteArray) ++ strB [x, y] = strB [110#8, x, y] := by
  apply ByteArray.ext
  simp [strB, strL]
  try rfl
def rkL (k : Nat) : Rv := ⟨strB (nmT k), ((k % 2 : Nat) : Int)⟩
def rkS (m : Nat) : List Rv := (List.range m).map rkL
theorem rkS_succ (m : Nat) : rkS (m + 1) = rkS m ++ [rkL m] := by unfold rkS; rw [List.range_succ, List.map_append]; rfl
theorem rkS_len (m : Nat) : (rkS m).length = m := by simp [rkS]
theorem rk_ok : ∀ m, m < 65 → ckRoots 1 emptyS (rkS m) = 0 := by decide +kernel
def limG (q qa qd p b : Nat) (RA : Option Addr) (rc m : Nat) : Gv := ⟨some ⟨q, 0, none⟩, 1, RA, rc, [⟨some ⟨qa, 0, none⟩, p, some ⟨qd, 0, none⟩, b, List.replicate p 0, List.replicate b 0#8⟩], rkS m⟩
theorem lim_ck (q qa qd p b : Nat) (RA : Option Addr) (rc m : Nat) : ckG (limG q qa qd p b RA rc m) = if 64 < p ∨ 1024 < b ∨ 64 < m then 3 else 0 := by
  have h1 : (List.replicate p (0 : Int)).all (okP 1) = true := by
    rw [List.all_eq_true]
    intro x hx
    rw [(List.mem_replicate.1 hx).2]
    rfl
  have h2 : ckNodes 1 (limG q qa qd p b RA rc m).n = if 64 < p ∨ 1024 < b then 3 else 0 := by
    show (if ckNode 1 _ = 0 then 0 else ckNode 1 _) = _
    unfold ckNode
    simp only [h1, if_true, List.length_replicate]
    by_cases c : 64 < p ∨ 1024 < b
    · simp [c]
    · simp [c]
  unfold ckG
  rw [show (limG q qa qd p b RA rc m).n.length = 1 from rfl, h2, show (limG q qa qd p b RA rc m).r = rkS m from rfl, rkS_len]
  by_cases c : 64 < p ∨ 1024 < b
  · rw [if_pos c, if_neg (by decide), if_pos (by omega)]
  · rw [if_neg c, if_pos rfl]
    by_cases d : 64 < m
    · rw [if_pos d, if_pos (by omega)]
    · rw [if_neg d, if_neg (by omega), rk_ok m (by omega)]
theorem type_ne {W : World} {q k E F : Nat} {cs ds : Array Value} {m n : Nat × Nat} (h : W.heap[q]? = some (.cells cs E m)) (h2 : W.heap[k]? = some (.cells ds F n)) (hne : E ≠ F) : q ≠ k := fun e => by
  subst e
  rw [h] at h2
  injection h2 with h2
  injection h2 with _ h3
  exact hne h3
theorem ow_blk {α : Type} {f : α → Value} {E : TypeId} {W : World} {q n c : Nat} {xs : List α} (h : Ow f E W 0 (.slice (some ⟨q, 0, none⟩) n c) xs) : ∃ cs m, W.heap[q]? = some (.cells cs E m) := by
  rcases h.2 with ⟨e, _⟩ | ⟨g, cap, cur, e, _, hh, _⟩
  · cases e
  · injection e with e
    injection e with e
    injection e with e
    subst e
    exact ⟨_, _, hh⟩
theorem limits_walk (w : World) (P : Int) (hP : (Lit.int .i64 P).wf = true) (B : Int) (hB : (Lit.int .i64 B).wf = true) (M : Int) (hM : (Lit.int .i64 M).wf = true) : Calls Try.prog 7 #[.int .i64 P, .int .i64 B, .int .i64 M] w (TruP (.bool true) w) := by
  by_cases hin : (60 ≤ P ∧ P ≤ 68) ∧ (1020 ≤ B ∧ B ≤ 1028) ∧ (60 ≤ M ∧ M ≤ 68)
  · obtain ⟨p, rfl⟩ : ∃ p : Nat, P = (p : Int) := ⟨P.toNat, by omega⟩
    obtain ⟨b, rfl⟩ : ∃ b : Nat, B = (b : Int) := ⟨B.toNat, by omega⟩
    obtain ⟨m, rfl⟩ : ∃ m : Nat, M = (m : Int) := ⟨M.toNat, by omega⟩
    obtain ⟨⟨u1, u2⟩, ⟨u3, u4⟩, u5, u6⟩ := hin
    have v1 : ¬ (p : Int) < 60 := by omega
    have v2 : ¬ 68 < (p : Int) := by omega
    have v3 : ¬ (b : Int) < 1020 := by omega
    have v4 : ¬ 1028 < (b : Int) := by omega
    have v5 : ¬ (m : Int) < 60 := by omega
    have v6 : ¬ 68 < (m : Int) := by omega
    have v11 : ¬ p < 60 := by omega
    have v12 : ¬ 68 < p := by omega
    have v13 : ¬ b < 1020 := by omega
    have v14 : ¬ 1028 < b := by omega
    have v15 : ¬ m < 60 := by omega
    have v16 : ¬ 68 < m := by omega
    go_enter Try.func7, Try.ntmps7
    go_wp2_with fail
    refine Calls.mono (known17_c _) ?_
    rintro r w1 ⟨rfl, b1⟩
    have HB := Lib.hid b1
    clear b1
    go_wp2_with fail
    refine lim_r _ _ _ p b (by omega) (by omega) rfl rfl rfl ?_
    intro vals w2 hG h40 h7
    obtain ⟨u40, h40, q, qa, qd, rfl, hq, hqa, hqd⟩ := h40
    obtain ⟨k, h7, hk1, hk⟩ := h7
    simp only [putD, Act.put, List.setIfInBounds_toArray, List.set_cons_zero, List.set_cons_succ, h40, h7]
    have HB2 := Lib.hid (HB.out.trans (hG.mono HB.out.size))
    have hne : q ≠ k := type_ne hq hk (by decide)
    have hne2 : qa ≠ k := by obtain ⟨cs, mm, e⟩ := ow_blk hqa; exact type_ne e hk (by decide)
    have hne3 : qd ≠ k := by obtain ⟨cs, mm, e⟩ := ow_blk hqd; exact type_ne e hk (by decide)
    have c0 := hk.two.1
    have c1 := hk.two.2
    have f0 := hk.free 0
    have f1 := hk.free 1
    have HK := Lib.hid (And.intro hk (And.intro hq (And.intro hqa (And.intro hqd (And.intro hne (And.intro hne2 (And.intro hne3 (show w.heap.size ≤ k from Nat.le_trans HB.out.size hk1))))))))
    clear hG h40 h7 hk1 hk hq hqa hqd hne hne2 hne3 u1 u2 u3 u4 u5 u6 v11 v12 v13 v14 v15 v16 hP hB hM
    go_wp2_with fail
    clear c0 c1 f0 f1
    go_loopw [8] (fun i W => ∃ (j : Nat) (RA : Option Addr) (rc : Nat), i = .int .i64 j ∧ j ≤ m ∧ ROwn W w2.heap.size (.slice RA j rc) (rkS j) ∧ Bk W k 25 #[.slice (some ⟨q, 0, none⟩) 1 1, .slice RA j rc] ∧ Kept (fun b => b = k) w2 W) (fun i _ => m - (Go.RowKit.intOf i).toNat)
    case atStart =>
      refine ⟨0, none, 0, rfl, Nat.zero_le _, ROwn.nil _ _, ?_, (Kept.set w2 k 0 _).trans (Kept.set _ k 1 _)⟩
      have := (HK.out.1.set 0 (.slice (some ⟨q, 0, none⟩) 1 1)).set 1 (.slice none 0 0)
      simpa using this
    case round =>
      obtain ⟨j, RA, rc, rfl, hj, hro, hb1, hK⟩ := hrel
      have HB3 := Lib.hid (And.intro hb1 (And.intro hro hK))
      have hobs := hb1.lt
      by_cases hlt : j < m
      · have p1 : (0 : Int) ≤ (j : Int) := by omega
        have p2 : (j : Int) < (m : Int) := by omega
        have e1 := hb1.two.2
        have e1f := hb1.free 1
        obtain ⟨s2, hs2⟩ : ∃ s, s = strB [BitVec.ofNat 8 (97 + j / 10), BitVec.ofNat 8 (48 + j % 10)] := ⟨_, rfl⟩
        have hcv : ∀ W : World, (convert 51 9 (.slice (some ⟨W.heap.size, 0, none⟩) 2 2)).run Try.prog (W.alloc (.cells #[.int .u8 (97 + (j : Int) / 10), .int .u8 (48 + (j : Int) % 10)] 5)) = .ok (.string s2) (W.alloc (.cells #[.int .u8 (97 + (j : Int) / 10), .int .u8 (48 + (j : Int) % 10)] 5)) := fun W => by
          rw [← nmT_1 j (by omega), ← nmT_2 j (by omega), hs2]
          exact str_conv [BitVec.ofNat 8 (97 + j / 10), BitVec.ofNat 8 (48 + j % 10)] (some ⟨W.heap.size, 0, none⟩) 2 (W.heap.size + 1) _ ((Bk.new W 5 #[.int .u8 (U8 (BitVec.ofNat 8 (97 + j / 10))), .int .u8 (U8 (BitVec.ofNat 8 (48 + j % 10)))]).rd rfl (by omega))
        have hsz : s2.size = 2 := by rw [hs2]; rfl
        have HRK := Lib.hid (show rkL j = ⟨(⟨#[110]⟩ : ByteArray) ++ s2, (j : Int) % 2⟩ from by unfold rkL; rw [hs2, n_app]; rfl)
        clear hs2 hb1 hro hK
        obtain ⟨i0, hi, hz0, hz1, hz2⟩ := info_parts infoR
        have HI := Lib.hid (And.intro hi (And.intro hz0 (And.intro hz1 hz2)))
        have b5 : Below wr.heap.size wr ((wr.alloc (.cells #[.int .u8 (97 + (j : Int) / 10), .int .u8 (48 + (j : Int) % 10)] 5)).alloc (.cells #[.string ((⟨#[110]⟩ : ByteArray) ++ s2), .int .i64 ((j : Int) % 2)] 58)) := (Gw.alloc wr _).trans ((Gw.alloc _ _).mono (by simp))
        have n5 : Bk ((wr.alloc (.cells #[.int .u8 (97 + (j : Int) / 10), .int .u8 (48 + (j : Int) % 10)] 5)).alloc (.cells #[.string ((⟨#[110]⟩ : ByteArray) ++ s2), .int .i64 ((j : Int) % 2)] 58)) (wr.heap.size + 1) 58 #[.string ((⟨#[110]⟩ : ByteArray) ++ s2), .int .i64 ((j : Int) % 2)] := by
          have := Bk.new (wr.alloc (.cells #[.int .u8 (97 + (j : Int) / 10), .int .u8 (48 + (j : Int) % 10)] 5)) 58 #[.string ((⟨#[110]⟩ : ByteArray) ++ s2), .int .i64 ((j : Int) % 2)]
          simpa using this
        have HB5 := Lib.hid b5
        have hrow := ownsRow_below HB3.out.2.1 b5
        rw [rkS_len] at hrow
        have hnew : ∀ (i : Nat) (u : Value), [Value.string ((⟨#[110]⟩ : ByteArray) ++ s2), .int .i64 ((j : Int) % 2)][i]? = some u → ((wr.alloc (.cells #[.int .u8 (97 + (j : Int) / 10), .int .u8 (48 + (j : Int) % 10)] 5)).alloc (.cells #[.string ((⟨#[110]⟩ : ByteArray) ++ s2), .int .i64 ((j : Int) % 2)] 58)).cell? ((⟨wr.heap.size + 1, 0, none⟩ : Addr).add i) = some u := fun i u hu => by
          have hj : i < 2 := by have := (List.getElem?_eq_some_iff.1 hu).1; simpa using this
          rw [addr_at, n5.cell]
          rcases (show i = 0 ∨ i = 1 by omega) with rfl | rfl
          · simpa using hu
          · simpa using hu
        have hone : ∀ u ∈ [Value.string ((⟨#[110]⟩ : ByteArray) ++ s2), .int .i64 ((j : Int) % 2)], u.oneCell' = true := fun u hu => by
          simp only [List.mem_cons, List.not_mem_nil, or_false] at hu
          rcases hu with rfl | rfl <;> rfl
        have HRow := Lib.hid (And.intro hrow (And.intro hnew hone))
        have hwsz : w2.heap.size ≤ wr.heap.size := HB3.out.2.2.size
        have HWz := Lib.hid (show w2.heap.size ≤ ((wr.alloc (.cells #[.int .u8 (97 + (j : Int) / 10), .int .u8 (48 + (j : Int) % 10)] 5)).alloc (.cells #[.string ((⟨#[110]⟩ : ByteArray) ++ s2), .int .i64 ((j : Int) % 2)] 58)).heap.size from Nat.le_trans hwsz b5.size)
        have HK2 := Lib.hid HK.out.1.lt
        clear hi hz0 hz1 hz2 b5 n5 hrow hnew hone hwsz
        go_wp2_with (at_builtin; refine wp_appR 2 i0 Try.underlying23 HI.out.1 HI.out.2.1 HI.out.2.2.1 HI.out.2.2.2 (by rfl) (by decide) rfl (.tmp 47) (.tmp 62) rfl w2.heap.size _ j _ rfl HRow.out.1 ⟨wr.heap.size + 1, 0, none⟩ 1 1 [.string ((⟨#[110]⟩ : ByteArray) ++ s2), .int .i64 ((j : Int) % 2)] rfl rfl HRow.out.2.1 HRow.out.2.2 (by unfold maxLen; omega) (by omega) HWz.out ?_; intro v5 w5 ho5 hb5 hg5 hv5; obtain ⟨A5, c5, rfl⟩ := own_form ho5; have hQ5 := (HB3.out.1.below HB5.out hobs).below hb5 HK2.out; have q50 := hQ5.two.2; have q5f := hQ5.free 1; have H5 := Lib.hid (And.intro ho5 (And.intro hb5 hQ5)); clear ho5 hb5 hg5 hv5 hQ5)
        have X : ∃ (j' : Nat) (RA' : Option Addr) (rc' : Nat), (Value.int .i64 ((j : Int) + 1)) = .int .i64 j' ∧ j' ≤ m ∧ ROwn (w5.setCell ⟨k, 1, none⟩ (.slice A5 (j + 1) c5)) w2.heap.size (.slice RA' j' rc') (rkS j') ∧ Bk (w5.setCell ⟨k, 1, none⟩ (.slice A5 (j + 1) c5)) k 25 #[.slice (some ⟨q, 0, none⟩) 1 1, .slice RA' j' rc'] ∧ Kept (fun b => b = k) w2 (w5.setCell ⟨k, 1, none⟩ (.slice A5 (j + 1) c5)) := by
          obtain ⟨h1, h2, h3⟩ := H5.out
          refine ⟨j + 1, A5, c5, by go_num, by omega, ?_, h3.set 1 _, ((HB3.out.2.2.trans (Kept.of_below HB5.out _)).bel h2).trans (Kept.set w5 k 1 _)⟩
          have h4 : ROwn w5 w2.heap.size (.slice A5 (j + 1) c5) (rkS (j + 1)) := by
            unfold ROwn
            rw [rkS_len, rkS_succ, List.flatMap_append, HRK.out]
            exact h1
          refine World.ownsRow.kept h4 (grown_set w5 ⟨k, 1, none⟩ _) ?_
          cases e : (Value.slice A5 (j + 1) c5).ownBlock with
          | none => exact .inl rfl
          | some c => exact .inr (fun e2 => by injection e2 with e2; have e3 : c = k := e2; have h5 := (World.ownsRow.lt h4 c e).1; have := HK2.out; omega)
        clear q50 q5f H5 HRow HB3 hcv
        go_wp2_with fail
        go_roundw
        case rel => first | exact X | exact ⟨_, _, _, _, _, _, _, _, _, _, _, _, _, _, _, _, _, _, _, _, _, _, _, _, _, X, rfl⟩
        case measure => simp [Go.RowKit.intOf]; omega
      · have hjm : j = m := by omega
        subst hjm
        obtain ⟨o1, o2, o3, o4, o5, o6, o7, o8⟩ := HK.out
        have r2 := ROwn.rows hro
        have ha2 := hK.ow o3 (fun c e e2 => by injection e with e; have e3 : qa = c := e; exact o6 (e3.trans e2))
        have hd2 := hK.ow o4 (fun c e e2 => by injection e with e; have e3 : qd = c := e; exact o7 (e3.trans e2))
        have hq2 := hK.bk o2 o5
        have hga : (limG q qa qd p b RA rc j).At wr wr.heap.size := by
          refine ⟨fun i hi => ?_, r2.1, by show 1 ≤ 1; omega, by show (rkS j).length ≤ rc; exact r2.2.2⟩
          have hi0 : i = 0 := by have h : i < 1 := hi; omega
          subst hi0
          refine ⟨⟨q, 0, none⟩, rfl, hq2.lt, ?_, ?_, ⟨Ow.rd2 ha2, Ow.rd2 hd2, ?_, ?_⟩⟩
          · rw [addr_at]
            refine (hq2.cell 0).trans ?_
            show _ = some (Value.slice (some ⟨qa, 0, none⟩) (List.replicate p (0 : Int)).length p)
            rw [List.length_replicate]; rfl
          · rw [addr_at]
            refine (hq2.cell 1).trans ?_
            show _ = some (Value.slice (some ⟨qd, 0, none⟩) (List.replicate b (0#8)).length b)
            rw [List.length_replicate]; rfl
          · show (List.replicate p (0 : Int)).length ≤ p; rw [List.length_replicate]; exact Nat.le_refl _
          · show (List.replicate b (0#8)).length ≤ b; rw [List.length_replicate]; exact Nat.le_refl _
        have hsm : (limG q qa qd p b RA rc j).Small := by
          refine ⟨by show 1 ≤ _; omega, by show (rkS j).length ≤ _; rw [rkS_len]; omega, fun x hx => ?_⟩
          have hx : x ∈ [(⟨some ⟨qa, 0, none⟩, p, some ⟨qd, 0, none⟩, b, List.replicate p 0, List.replicate b 0#8⟩ : Nv)] := hx
          obtain rfl := List.mem_singleton.1 hx
          simp only [List.length_replicate]
          omega
        have HC := Lib.hid (show Calls Try.prog 11 #[.agg #[.slice (some ⟨q, 0, none⟩) 1 1, .slice RA j rc]] wr (RetP (.int .i64 (if 64 < p ∨ 1024 < b ∨ 64 < j then 3 else 0)) wr) from by
          have kk := check_c wr (limG q qa qd p b RA rc j) hga hsm
          rw [lim_ck] at kk
          have e : (limG q qa qd p b RA rc j).v = .agg #[.slice (some ⟨q, 0, none⟩) 1 1, .slice RA j rc] := by
            show Value.agg #[.slice (some ⟨q, 0, none⟩) 1 1, .slice RA (rkS j).length rc] = _
            rw [rkS_len]
          rw [e] at kk
          exact kk)
        have e0 := hb1.two.1
        have e1 := hb1.two.2
        have HBw := Lib.hid (show Below w.heap.size w wr from HB2.out.trans (hK.below HB2.out.size (fun c e => by rw [e]; exact o8)))
        have hkl := hb1.lt
        clear hro hb1 hK o1 o2 o3 o4 o5 o6 o7 o8 r2 ha2 hd2 hq2 hga hsm HK HB
        by_cases c1 : 64 < p
        · have HC2 := Lib.hid (show Calls Try.prog 11 #[.agg #[.slice (some ⟨q, 0, none⟩) 1 1, .slice RA j rc]] wr (RetP (.int .i64 3) wr) from by have := HC.out; rw [if_pos (.inl c1)] at this; exact this)
          have d1 : (64 : Int) < (p : Int) := by omega
          go_wp2_with fail
          refine Calls.mono HC2.out ?_
          rintro r w9 ⟨rfl, b9⟩
          have H9 := Lib.hid (HBw.out.trans (b9.mono HBw.out.size))
          clear b9
          go_wp2_with fail
          go_ret
          exact ⟨rfl, H9.out⟩
        · by_cases c2 : 1024 < b
          · have HC2 := Lib.hid (show Calls Try.prog 11 #[.agg #[.slice (some ⟨q, 0, none⟩) 1 1, .slice RA j rc]] wr (RetP (.int .i64 3) wr) from by have := HC.out; rw [if_pos (.inr (.inl c2))] at this; exact this)
            have d1 : (1024 : Int) < (b : Int) := by omega
            go_wp2_with fail
            refine Calls.mono HC2.out ?_
            rintro r w9 ⟨rfl, b9⟩
            have H9 := Lib.hid (HBw.out.trans (b9.mono HBw.out.size))
            clear b9
            go_wp2_with fail
            go_ret
            exact ⟨rfl, H9.out⟩
          · by_cases c3 : 64 < j
            · have HC2 := Lib.hid (show Calls Try.prog 11 #[.agg #[.slice (some ⟨q, 0, none⟩) 1 1, .slice RA j rc]] wr (RetP (.int .i64 3) wr) from by have := HC.out; rw [if_pos (.inr (.inr c3))] at this; exact this)
              have d1 : (64 : Int) < (j : Int) := by omega
              go_wp2_with fail
              refine Calls.mono HC2.out ?_
              rintro r w9 ⟨rfl, b9⟩
              have H9 := Lib.hid (HBw.out.trans (b9.mono HBw.out.size))
              clear b9
              go_wp2_with fail
              go_ret
              exact ⟨rfl, H9.out⟩
            · have HC2 := Lib.hid (show Calls Try.prog 11 #[.agg #[.slice (some ⟨q, 0, none⟩) 1 1, .slice RA j rc]] wr (RetP (.int .i64 0) wr) from by have := HC.out; rw [if_neg (by omega)] at this; exact this)
              go_wp2_with fail
              refine Calls.mono HC2.out ?_
              rintro r w9 ⟨rfl, b9⟩
              have H9 := Lib.hid (HBw.out.trans (b9.mono HBw.out.size))
              clear b9
              go_wp2_with fail
              go_ret
              exact ⟨rfl, H9.out⟩
  · have HN := Lib.hid hin
    clear hin
    go_enter Try.func7, Try.ntmps7
    go_wp2_with fail
    refine Calls.mono (known17_c _) ?_
    rintro r w1 ⟨rfl, b1⟩
    have HB := Lib.hid b1
    clear b1
    by_cases h1 : P < 60
    · go_wp2_with fail
      go_ret
      exact ⟨rfl, HB.out⟩
    · by_cases h2 : 68 < P
      · go_wp2_with fail
        go_ret
        exact ⟨rfl, HB.out⟩
      · by_cases h3 : B < 1020
        · go_wp2_with fail
          go_ret
          exact ⟨rfl, HB.out⟩
        · by_cases h4 : 1028 < B
          · go_wp2_with fail
            go_ret
            exact ⟨rfl, HB.out⟩
          · by_cases h5 : M < 60
            · go_wp2_with fail
              go_ret
              exact ⟨rfl, HB.out⟩
            · have h6 : 68 < M := by have := HN.out; omega
              go_wp2_with fail
              go_ret
              exact ⟨rfl, HB.out⟩
end Go.Proofs.Ytidaimcndbhefaa
namespace Go.Proofs.Ytidaimcndbhefaa.graphLimits
open Go.ChangeShapes Go.WideShapes Go.ChangeAt Go.RowKit
open Go.ChangeMaps (open_string shut_string)
set_option linter.unusedVariables false
set_option maxRecDepth 100000 in
theorem lifted (os : Os) (started : os.Started) (H : Type) (enc : TypeId × Value → H) :
    ReturnsInHanded {} Try.checked os 7 .any (Rows.graphLimitsSpec.pre6 enc Try.prog Try.f7 Rows.graphLimitsRow.domain false) (Rows.graphLimitsSpec.post enc Try.prog Try.f7 false true false false) := by
  refine returnsInHanded_of_change (C := Try.checked) own started (by kernel_rfl) Try.func7
    (ChangeSpec.witness6 (enc := enc) (C := Try.checked) false ⟨#[], #[.int .i64 0, .int .i64 0, .int .i64 0], []⟩ 8 (by kernel_rfl) (by kernel_rfl) (by kernel_rfl) (by kernel_rfl)) ?_
  intro W base args ds gs before hval0 hW hcnd _
  have hval : ∀ (j : Nat) t v, Try.f7.params[j]? = some t → args[j]? = some v → Value.okWide Try.prog W .any base t v := hval0
  have hW' := hW
  obtain ⟨p, q, hA0, hV, rfl, hfz, hnd⟩ := hW
  have hA : DataW.TrodAll enc Try.prog W 0 (fun _ => true) true Try.f7.params.toList args.toList ds p := hA0
  rw [Try.params7] at hA hval
  obtain ⟨v0, vs0, d0, ds0, p0, q0, hargs, rfl, rfl, h0, r0⟩ := trodAll_cons hA
  obtain ⟨v1, vs1, d1, ds1, p1, q1, rfl, rfl, rfl, h1, r1⟩ := trodAll_cons r0
  obtain ⟨v2, vs2, d2, ds2, p2, q2, rfl, rfl, rfl, h2, r2⟩ := trodAll_cons r1
  obtain ⟨rfl, rfl, rfl⟩ := trodAll_nil r2
  obtain rfl : args = #[v0, v1, v2] := by cases args; simp_all
  obtain ⟨rfl, rfl⟩ := trodVars_none hV
  have k0 := h0
  have lt0 : ∀ x ∈ p0, x.block < W.heap.size := by obtain ⟨m, hm⟩ := k0; exact DataW.trod_lt m _ _ _ hm
  obtain ⟨a0, e0v, _, _, w0⟩ := open_int Try.underlying3 (hval 0 3 v0 rfl rfl) h0; subst e0v
  have k1 := h1
  have lt1 : ∀ x ∈ p1, x.block < W.heap.size := by obtain ⟨m, hm⟩ := k1; exact DataW.trod_lt m _ _ _ hm
  obtain ⟨a1, e1v, _, _, w1⟩ := open_int Try.underlying3 (hval 1 3 v1 rfl rfl) h1; subst e1v
  have k2 := h2
  have lt2 : ∀ x ∈ p2, x.block < W.heap.size := by obtain ⟨m, hm⟩ := k2; exact DataW.trod_lt m _ _ _ hm
  obtain ⟨a2, e2v, _, _, w2⟩ := open_int Try.underlying3 (hval 2 3 v2 rfl rfl) h2; subst e2v
  clear hA0 hval0
  refine (limits_walk W a0 w0 a1 w1 a2 w2).mono fun e W' ⟨he, bel⟩ => ?_
  subst he
  exact ⟨_, rfl, _, _, _, [], _, [], hW', trodAll_mk1 (shut_bool Try.underlying4 _), (trodAll_cons_mk (Below.trod laidOut (by kernel_rfl) (of_decide_eq_true (by kernel_rfl)) k0 bel lt0) (trodAll_cons_mk (Below.trod laidOut (by kernel_rfl) (of_decide_eq_true (by kernel_rfl)) k1 bel lt1) (trodAll_cons_mk (Below.trod laidOut (by kernel_rfl) (of_decide_eq_true (by kernel_rfl)) k2 bel lt2) trodAll_mk0))), rfl, bel.frame _, fun h => by cases h⟩
theorem over : Rows.graphLimitsRow.holds Try.pinned (OpenSpec.ofChange Rows.graphLimitsSpec) :=
  OpenClaim.holds_of_wide 7 Try.f7 rfl rfl rfl rfl rfl rfl rfl ⟨rfl, rfl, rfl, rfl, rfl⟩ rfl rfl rfl rfl rfl (by kernel_rfl) Try.func7 (by kernel_rfl)
    (of_decide_eq_true (by kernel_rfl)) (by unfold Func.isWrapper; first | (rw [if_pos (by decide +kernel)]; kernel_rfl) | (rw [if_neg (by decide +kernel)]; exact ⟨rfl, rfl⟩))
    (fun os started H enc _ => lifted os started H enc)
theorem proved : Rows.GraphLimitsSaid := over
end Go.Proofs.Ytidaimcndbhefaa.graphLimits
