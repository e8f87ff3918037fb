/- Rows of headers; Apart; a space and the document's space, all apart. Conditions: lengths. -/
import Derived.Test.YtgjnencpdafkoaaSpJ
import Derived.Test.YtgjnencpdafkoaaOpenR
namespace Go.Proofs.Ytgjnencpdafkoaa
set_option linter.unusedVariables false
set_option linter.unusedSimpArgs false
open Go.ChangeShapes Go.WideShapes Go.ChangeAt Go.RowKit
set_option maxRecDepth 100000
structure HdR where
  p : Int
  b : Int
  m : Bool
  t : Int
structure HdAt (W : World) (B : Nat) (ad : Addr) (k : Nat) (x : HdR) : Prop where
  blk : ad.block < B
  p : W.cell? (ad.add (k * 4)) = some (.int .i64 x.p)
  b : W.cell? ⟨(ad.add (k * 4)).block, (ad.add (k * 4)).off + 1, none⟩ = some (.int .i64 x.b)
  m : W.cell? ⟨(ad.add (k * 4)).block, (ad.add (k * 4)).off + 2, none⟩ = some (.bool x.m)
  t : W.cell? ⟨(ad.add (k * 4)).block, (ad.add (k * 4)).off + 3, none⟩ = some (.int .i64 x.t)
def Hds (W : World) (B : Nat) (A : Option Addr) (l : List HdR) : Prop := ∀ k (h : k < l.length), ∃ ad, A = some ad ∧ HdAt W B ad k l[k]
theorem HdAt.below {W W' : World} {B k : Nat} {ad : Addr} {x : HdR} (m : HdAt W B ad k x) (hb : Below B W W') : HdAt W' B ad k x := by
  have hbk : (ad.add (k * 4)).block < B := by rw [add_block]; exact m.blk
  have c : ∀ j, W'.cell? ⟨(ad.add (k * 4)).block, (ad.add (k * 4)).off + j, none⟩ = W.cell? ⟨(ad.add (k * 4)).block, (ad.add (k * 4)).off + j, none⟩ := fun j => hb.cell (p := ⟨(ad.add (k * 4)).block, (ad.add (k * 4)).off + j, none⟩) hbk
  exact ⟨m.blk, (hb.cell hbk).trans m.p, (c _).trans m.b, (c _).trans m.m, (c _).trans m.t⟩
theorem Hds.below {W W' : World} {B : Nat} {A : Option Addr} {l : List HdR} (h : Hds W B A l) (hb : Below B W W') : Hds W' B A l := fun k hk => by
  obtain ⟨ad, e, m⟩ := h k hk
  exact ⟨ad, e, m.below hb⟩
theorem open_rows_Head {H : Type} {enc : TypeId × Value → H} {W : World} {base : Nat} {sp : Nat → Bool} {hd : Bool} {r : Reach} {b0 : Nat} {v : Value} {d : DataW H} {p : List MemPlace}
    (hv : Value.okWide Try.prog W r b0 23 v) (h : DataW.Trod enc Try.prog W base sp hd 23 v d p) :
    ∃ (A : Option Addr) (l : List HdR) (c : Nat), v = .slice A l.length c ∧ l.length ≤ c ∧ c ≤ maxLen ∧ Hds W W.heap.size A l := by
  have he := Try.underlying37
  obtain ⟨A, n, c, rfl, hn, hm, hrow⟩ := rows_at (K := 4) Try.underlying23 he (by kernel_rfl) (by kernel_rfl) rfl hv h
  obtain ⟨l, hl, hp⟩ := choose_lst (α := HdR) (p := fun k x => ∃ ad, A = some ad ∧ HdAt W W.heap.size ad k x) n (fun k hk => by
    obtain ⟨ad, m, e, hf⟩ := hrow k hk
    obtain ⟨u0, y0, c0, t0⟩ := hf 0 _ rfl
    obtain ⟨u1, y1, c1, t1⟩ := hf 1 _ rfl
    obtain ⟨u2, y2, c2, t2⟩ := hf 2 _ rfl
    obtain ⟨u3, y3, c3, t3⟩ := hf 3 _ rfl
    obtain ⟨a0, rfl, w0⟩ := cell_int (k := .i64) (by kernel_rfl) t0
    obtain ⟨a1, rfl, w1⟩ := cell_int (k := .i64) (by kernel_rfl) t1
    obtain ⟨a2, e2, _⟩ := DataW.trod_bool (by kernel_rfl) t2
    obtain rfl : u2 = .bool a2 := by simpa using e2
    obtain ⟨a3, rfl, w3⟩ := cell_int (k := .i64) (by kernel_rfl) t3
    have hb := cell_lt c0
    rw [add_block] at hb
    exact ⟨⟨a0, a1, a2, a3⟩, ad, e, ⟨hb, c0, (congrArg W.cell? (add_far ad (k * 4) 0)).symm.trans c1, (congrArg W.cell? (add_far ad (k * 4) 1)).symm.trans c2, (congrArg W.cell? (add_far ad (k * 4) 2)).symm.trans c3⟩⟩)
  subst hl
  exact ⟨A, l, c, rfl, hn, hm, hp⟩
theorem MemAt.base15 {W : World} {B B2 g : Nat} {v : Value} {ws : List (BitVec 64)} (h : MemAt W B g v ws) (hb : B2 ≤ B) : MemAt W B2 g v ws := ⟨h.blk, Nat.le_trans hb h.ge, h.row.mono hb, h.ne⟩
theorem Ow.heap {α : Type} {f : α → Value} {E : TypeId} {w w' : World} {base : Nat} {v : Value} {xs : List α} (h : Ow f E w base v xs) (hk : ∀ q, v.ownBlock = some q → w'.heap[q]? = w.heap[q]?) : Ow f E w' base v xs := by
  refine ⟨h.1, ?_⟩
  rcases h.2 with hn | ⟨g, cap, cur, rfl, hb, hgg, rest⟩
  · exact .inl hn
  · exact .inr ⟨g, cap, cur, rfl, hb, (hk g rfl).trans hgg, rest⟩
/-- A space all of whose blocks are S or above stands when two blocks below S change. -/
theorem SpAt.two {W W' : World} {S s g s1 : Nat} {v : Value} {ws : List (BitVec 64)} {b t e : Nat} {row : Option Nat} (p : SpAt W S s g v ws b t e) (h : Two W W' s1 row) (h1 : s1 < S) (h2 : ∀ q, row = some q → q < S) : SpAt W' S s g v ws b t e := by
  have k : ∀ q, S ≤ q → q < W.heap.size → W'.heap[q]? = W.heap[q]? := fun q hq hl => h.block q hl (by omega) (fun e => by have := h2 q e.symm; omega)
  refine ⟨⟨(k g p.mem.ge p.mem.blk.lt).trans p.mem.blk, p.mem.ge, p.mem.row.heap (fun q hq => k q (p.mem.row.lt q hq).1 (p.mem.row.lt q hq).2), p.mem.ne⟩, (k s p.hs p.blk.lt).trans p.blk, p.sg, p.sv, p.hs, p.bt, p.te, p.el⟩
def TwV (S : Nat) (ws : List (BitVec 64)) (u : Value) (W : World) : Prop := ∃ g v, u = .pointer (some ⟨g, 0, none⟩) ∧ MemAt W S g v ws
def TaV (S : Nat) (ws : List (BitVec 64)) (b t e : Nat) (u : Value) (W : World) : Prop := ∃ g v, u = .agg #[.pointer (some ⟨g, 0, none⟩), .int .i64 b, .int .i64 t, .int .i64 e] ∧ MemAt W S g v ws
def TsV (S : Nat) (ws : List (BitVec 64)) (b t e : Nat) (u : Value) (W : World) : Prop := ∃ s g v, u = .pointer (some ⟨s, 0, none⟩) ∧ SpAt W S s g v ws b t e
theorem TwV.mono {S : Nat} {ws : List (BitVec 64)} {u : Value} {a b : World} (h : TwV S ws u a) (k : Gw a b) : TwV S ws u b := by
  obtain ⟨g, v, e, m⟩ := h
  exact ⟨g, v, e, m.below k⟩
theorem TaV.mono {S b t e : Nat} {ws : List (BitVec 64)} {u : Value} {a c : World} (h : TaV S ws b t e u a) (k : Gw a c) : TaV S ws b t e u c := by
  obtain ⟨g, v, e, m⟩ := h
  exact ⟨g, v, e, m.below k⟩
theorem TsV.mono {S b t e : Nat} {ws : List (BitVec 64)} {u : Value} {a c : World} (h : TsV S ws b t e u a) (k : Gw a c) : TsV S ws b t e u c := by
  obtain ⟨s, g, v, e, m⟩ := h
  exact ⟨s, g, v, e, m.below k⟩
theorem TaV.box {S b t e : Nat} {ws : List (BitVec 64)} {W : World} {g : Nat} {v : Value} (m : MemAt W S g v ws) (hbt : b ≤ t) (hte : t ≤ e) (hel : e ≤ ws.length) : TsV S ws b t e (.pointer (some ⟨W.heap.size, 0, none⟩)) (W.alloc (.cells #[.pointer (some ⟨g, 0, none⟩), .int .i64 b, .int .i64 t, .int .i64 e] 58)) := by
  have hb := Gw.alloc W (.cells #[.pointer (some ⟨g, 0, none⟩), .int .i64 b, .int .i64 t, .int .i64 e] 58)
  refine ⟨W.heap.size, g, v, rfl, ⟨m.below hb, Bk.new W _ _, ?_, fun e => ?_, m.le, hbt, hte, hel⟩⟩
  · have := m.blk.lt; omega
  · have := (m.row.lt _ e).2; omega
set_option maxHeartbeats 400000
theorem ap_reg (Q : Exit → Act → World → Prop) (a0 : Act) (w : World) (B s g : Nat) (v : Value) (ws : List (BitVec 64)) (b t e : Nat) (sp : SpAt w B s g v ws b t e) (hl : ws.length ≤ 100000) (hsz : a0.tmps.size = 22) (sl0 : a0.tmps.getD 0 undef = .pointer (some ⟨s, 0, none⟩))
    (fin : ∀ (vals : Nat → Value) (w1 : World), Below w.heap.size w w1 → (TsV w.heap.size ws b t e) (vals 19) w1 → Q .normal (putD vals [3, 4, 5, 6, 7, 8, 9, 10, 11, 12, 13, 14, 15, 16, 17, 18, 19, 20, 21, 2] 0 a0) w1) :
    (Code.region 1 (regIn Try.f19 1) true).wp Try.prog Q a0 w := by
  refine region_by (G := fun w w1 => Below w.heap.size w w1) [IsV (.pointer (some ⟨s, 0, none⟩)),
    IsV (.pointer (some ⟨s, 0, none⟩)),
    IsV (.pointer (some ⟨s, 0, none⟩)),
    IsV (.pointer (some ⟨g, 0, none⟩)),
    TwV w.heap.size ws,
    IsV (.pointer (some ⟨s, 0, none⟩)),
    IsV (.pointer (some ⟨s, 0, none⟩)),
    IsV (.pointer (some ⟨s, 1, none⟩)),
    IsV (.int .i64 b),
    IsV (.pointer (some ⟨s, 0, none⟩)),
    IsV (.pointer (some ⟨s, 0, none⟩)),
    IsV (.pointer (some ⟨s, 2, none⟩)),
    IsV (.int .i64 t),
    IsV (.pointer (some ⟨s, 0, none⟩)),
    IsV (.pointer (some ⟨s, 0, none⟩)),
    IsV (.pointer (some ⟨s, 3, none⟩)),
    IsV (.int .i64 e),
    TaV w.heap.size ws b t e,
    TsV w.heap.size ws b t e,
    TsV w.heap.size ws b t e]
    [3, 4, 5, 6, 7, 8, 9, 10, 11, 12, 13, 14, 15, 16, 17, 18, 19, 20, 21, 2] (by kernel_rfl) (Gw.drew _) Gw.trans (by rw [hsz]; kernel_rfl) (by kernel_rfl) ?_ ?_ ?_
  · intro f hf
    simp only [List.mem_cons, List.not_mem_nil, or_false] at hf
    rcases hf with rfl | rfl | rfl | rfl | rfl | rfl | rfl | rfl | rfl | rfl | rfl | rfl | rfl | rfl | rfl | rfl | rfl | rfl | rfl | rfl <;> intro v a b h g <;> first | exact IsV.mono h | exact TwV.mono h g | exact TaV.mono h g | exact TsV.mono h g
  · refine ⟨?_, ?_, ?_, ?_, ?_, ?_, ?_, ?_, ?_, ?_, ?_, ?_, ?_, ?_, ?_, ?_, ?_, ?_, ?_, ?_, trivial⟩
    · exact owes_mv 0 (by kernel_rfl) (by kernel_rfl) (by kernel_rfl) sl0 (fun _ => rfl)
    · refine owes_v (Go.Op.nilCheck (Go.Operand.tmp 3)) 0 [0] (by kernel_rfl) (by kernel_rfl) (by kernel_rfl) rfl fun vals w1 ρ hG hF hρ hcst hfun => ?_
      have e3 : ρ (.tmp 3) = .pointer (some ⟨s, 0, none⟩) := ((hρ 3).trans (slotJ [0] (by rw [hsz]; decide) (by kernel_rfl))).trans (hF 0 (by decide))
      clear hρ hF hcst hfun sl0 fin
      exact opv_val (by go_simp <;> rfl) ⟨gw_self _, rfl⟩
    · refine owes_v (Go.Op.fieldAddr 58 (Go.Operand.tmp 4) 0) 0 [1] (by kernel_rfl) (by kernel_rfl) (by kernel_rfl) rfl fun vals w1 ρ hG hF hρ hcst hfun => ?_
      have e4 : ρ (.tmp 4) = .pointer (some ⟨s, 0, none⟩) := ((hρ 4).trans (slotJ [1] (by rw [hsz]; decide) (by kernel_rfl))).trans (hF 1 (by decide))
      clear hρ hF hcst hfun sl0 fin
      exact opv_val (by go_simp <;> rfl) ⟨gw_self _, rfl⟩
    · refine owes_v (Go.Op.load 29 (Go.Operand.tmp 5)) 29 [2] (by kernel_rfl) (by kernel_rfl) (by kernel_rfl) rfl fun vals w1 ρ hG hF hρ hcst hfun => ?_
      have e5 : ρ (.tmp 5) = .pointer (some ⟨s, 0, none⟩) := ((hρ 5).trans (slotJ [2] (by rw [hsz]; decide) (by kernel_rfl))).trans (hF 2 (by decide))
      have k := (sp.below hG).four.1
      clear hρ hF hcst hfun sl0 fin
      exact opv_val (by go_simp <;> rfl) ⟨gw_self _, rfl⟩
    · refine owes_v (Go.Op.call { callee := Go.Callee.value (Go.Operand.func 39), args := #[Go.Operand.tmp 6], argTypes := #[29] }) 29 [3] (by kernel_rfl) (by kernel_rfl) (by kernel_rfl) rfl fun vals w1 ρ hG hF hρ hcst hfun => ?_
      have e6 : ρ (.tmp 6) = .pointer (some ⟨g, 0, none⟩) := ((hρ 6).trans (slotJ [3] (by rw [hsz]; decide) (by kernel_rfl))).trans (hF 3 (by decide))
      have kt := twin_c w1 B g v ws (sp.below hG).mem (by omega)
      clear hρ hF hcst sl0 fin
      exact opv_enter (by go_simp <;> rfl) (kt.mono fun _ _ h => by obtain ⟨g2, v2, e, m, b⟩ := h; exact ⟨_, e, b, g2, v2, rfl, m.base15 hG.size⟩)
    · exact owes_mv 0 (by kernel_rfl) (by kernel_rfl) (by kernel_rfl) sl0 (fun _ => rfl)
    · refine owes_v (Go.Op.nilCheck (Go.Operand.tmp 8)) 0 [5] (by kernel_rfl) (by kernel_rfl) (by kernel_rfl) rfl fun vals w1 ρ hG hF hρ hcst hfun => ?_
      have e8 : ρ (.tmp 8) = .pointer (some ⟨s, 0, none⟩) := ((hρ 8).trans (slotJ [5] (by rw [hsz]; decide) (by kernel_rfl))).trans (hF 5 (by decide))
      clear hρ hF hcst hfun sl0 fin
      exact opv_val (by go_simp <;> rfl) ⟨gw_self _, rfl⟩
    · refine owes_v (Go.Op.fieldAddr 58 (Go.Operand.tmp 9) 1) 0 [6] (by kernel_rfl) (by kernel_rfl) (by kernel_rfl) rfl fun vals w1 ρ hG hF hρ hcst hfun => ?_
      have e9 : ρ (.tmp 9) = .pointer (some ⟨s, 0, none⟩) := ((hρ 9).trans (slotJ [6] (by rw [hsz]; decide) (by kernel_rfl))).trans (hF 6 (by decide))
      clear hρ hF hcst hfun sl0 fin
      exact opv_val (by go_simp <;> rfl) ⟨gw_self _, rfl⟩
    · refine owes_v (Go.Op.load 3 (Go.Operand.tmp 10)) 3 [7] (by kernel_rfl) (by kernel_rfl) (by kernel_rfl) rfl fun vals w1 ρ hG hF hρ hcst hfun => ?_
      have e10 : ρ (.tmp 10) = .pointer (some ⟨s, 1, none⟩) := ((hρ 10).trans (slotJ [7] (by rw [hsz]; decide) (by kernel_rfl))).trans (hF 7 (by decide))
      have k := (sp.below hG).four.2.1
      clear hρ hF hcst hfun sl0 fin
      exact opv_val (by go_simp <;> rfl) ⟨gw_self _, rfl⟩
    · exact owes_mv 0 (by kernel_rfl) (by kernel_rfl) (by kernel_rfl) sl0 (fun _ => rfl)
    · refine owes_v (Go.Op.nilCheck (Go.Operand.tmp 12)) 0 [9] (by kernel_rfl) (by kernel_rfl) (by kernel_rfl) rfl fun vals w1 ρ hG hF hρ hcst hfun => ?_
      have e12 : ρ (.tmp 12) = .pointer (some ⟨s, 0, none⟩) := ((hρ 12).trans (slotJ [9] (by rw [hsz]; decide) (by kernel_rfl))).trans (hF 9 (by decide))
      clear hρ hF hcst hfun sl0 fin
      exact opv_val (by go_simp <;> rfl) ⟨gw_self _, rfl⟩
    · refine owes_v (Go.Op.fieldAddr 58 (Go.Operand.tmp 13) 2) 0 [10] (by kernel_rfl) (by kernel_rfl) (by kernel_rfl) rfl fun vals w1 ρ hG hF hρ hcst hfun => ?_
      have e13 : ρ (.tmp 13) = .pointer (some ⟨s, 0, none⟩) := ((hρ 13).trans (slotJ [10] (by rw [hsz]; decide) (by kernel_rfl))).trans (hF 10 (by decide))
      clear hρ hF hcst hfun sl0 fin
      exact opv_val (by go_simp <;> rfl) ⟨gw_self _, rfl⟩
    · refine owes_v (Go.Op.load 3 (Go.Operand.tmp 14)) 3 [11] (by kernel_rfl) (by kernel_rfl) (by kernel_rfl) rfl fun vals w1 ρ hG hF hρ hcst hfun => ?_
      have e14 : ρ (.tmp 14) = .pointer (some ⟨s, 2, none⟩) := ((hρ 14).trans (slotJ [11] (by rw [hsz]; decide) (by kernel_rfl))).trans (hF 11 (by decide))
      have k := (sp.below hG).four.2.2.1
      clear hρ hF hcst hfun sl0 fin
      exact opv_val (by go_simp <;> rfl) ⟨gw_self _, rfl⟩
    · exact owes_mv 0 (by kernel_rfl) (by kernel_rfl) (by kernel_rfl) sl0 (fun _ => rfl)
    · refine owes_v (Go.Op.nilCheck (Go.Operand.tmp 16)) 0 [13] (by kernel_rfl) (by kernel_rfl) (by kernel_rfl) rfl fun vals w1 ρ hG hF hρ hcst hfun => ?_
      have e16 : ρ (.tmp 16) = .pointer (some ⟨s, 0, none⟩) := ((hρ 16).trans (slotJ [13] (by rw [hsz]; decide) (by kernel_rfl))).trans (hF 13 (by decide))
      clear hρ hF hcst hfun sl0 fin
      exact opv_val (by go_simp <;> rfl) ⟨gw_self _, rfl⟩
    · refine owes_v (Go.Op.fieldAddr 58 (Go.Operand.tmp 17) 3) 0 [14] (by kernel_rfl) (by kernel_rfl) (by kernel_rfl) rfl fun vals w1 ρ hG hF hρ hcst hfun => ?_
      have e17 : ρ (.tmp 17) = .pointer (some ⟨s, 0, none⟩) := ((hρ 17).trans (slotJ [14] (by rw [hsz]; decide) (by kernel_rfl))).trans (hF 14 (by decide))
      clear hρ hF hcst hfun sl0 fin
      exact opv_val (by go_simp <;> rfl) ⟨gw_self _, rfl⟩
    · refine owes_v (Go.Op.load 3 (Go.Operand.tmp 18)) 3 [15] (by kernel_rfl) (by kernel_rfl) (by kernel_rfl) rfl fun vals w1 ρ hG hF hρ hcst hfun => ?_
      have e18 : ρ (.tmp 18) = .pointer (some ⟨s, 3, none⟩) := ((hρ 18).trans (slotJ [15] (by rw [hsz]; decide) (by kernel_rfl))).trans (hF 15 (by decide))
      have k := (sp.below hG).four.2.2.2
      clear hρ hF hcst hfun sl0 fin
      exact opv_val (by go_simp <;> rfl) ⟨gw_self _, rfl⟩
    · refine owes_v (Go.Op.build 58 #[(0, Go.Operand.tmp 7), (1, Go.Operand.tmp 11), (2, Go.Operand.tmp 15), (3, Go.Operand.tmp 19)]) 58 [4, 8, 12, 16] (by kernel_rfl) (by kernel_rfl) (by kernel_rfl) rfl fun vals w1 ρ hG hF hρ hcst hfun => ?_
      have f7 : (TwV w.heap.size ws) (vals 4) w1 := hF 4 (by decide)
      have e7 : ρ (.tmp 7) = vals 4 := (hρ 7).trans (slotJ [4, 8, 12, 16] (by rw [hsz]; decide) (by kernel_rfl))
      have e11 : ρ (.tmp 11) = .int .i64 b := ((hρ 11).trans (slotJ [4, 8, 12, 16] (by rw [hsz]; decide) (by kernel_rfl))).trans (hF 8 (by decide))
      have e15 : ρ (.tmp 15) = .int .i64 t := ((hρ 15).trans (slotJ [4, 8, 12, 16] (by rw [hsz]; decide) (by kernel_rfl))).trans (hF 12 (by decide))
      have e19 : ρ (.tmp 19) = .int .i64 e := ((hρ 19).trans (slotJ [4, 8, 12, 16] (by rw [hsz]; decide) (by kernel_rfl))).trans (hF 16 (by decide))
      obtain ⟨g2, v2, k7, m7⟩ := f7
      rw [k7] at e7
      clear hρ hF hcst hfun sl0 fin
      exact opv_val (by go_simp <;> rfl) ⟨gw_self _, ⟨g2, v2, rfl, m7⟩⟩
    · refine owes_v (Go.Op.box 58 (Go.Operand.tmp 20)) 25 [17] (by kernel_rfl) (by kernel_rfl) (by kernel_rfl) rfl fun vals w1 ρ hG hF hρ hcst hfun => ?_
      have f20 : (TaV w.heap.size ws b t e) (vals 17) w1 := hF 17 (by decide)
      have e20 : ρ (.tmp 20) = vals 17 := (hρ 20).trans (slotJ [17] (by rw [hsz]; decide) (by kernel_rfl))
      obtain ⟨g2, v2, k20, m20⟩ := f20
      rw [k20] at e20
      clear hρ hF hcst hfun sl0 fin
      exact opv_val (by go_simp <;> rfl) ⟨Gw.alloc _ _, TaV.box m20 sp.bt sp.te sp.el⟩
    · exact owes_mvj 18 21 (by kernel_rfl) (by kernel_rfl) (by kernel_rfl) (by kernel_rfl) (by rw [hsz]; decide) (fun v w h => h)
  · intro vals w1 hG hF
    exact fin vals w1 hG (hF 19 (by decide +kernel))
theorem apart_c (w : World) (B s g : Nat) (v : Value) (ws : List (BitVec 64)) (b t e : Nat) (sp : SpAt w B s g v ws b t e) (hl : ws.length ≤ 100000) :
    Calls Try.prog 19 #[.pointer (some ⟨s, 0, none⟩)] w fun r w' => ∃ s2 g2 v2, r = .returned (.pointer (some ⟨s2, 0, none⟩)) ∧ SpAt w' w.heap.size s2 g2 v2 ws b t e ∧ Below w.heap.size w w' := by
  have HS := Lib.hid (fun Q a0 => ap_reg Q a0 w B s g v ws b t e sp hl)
  clear sp hl
  go_enter Try.func19, Try.ntmps19
  go_wp2_with fail
  refine HS.out _ _ rfl rfl ?_
  intro vals w1 hG h2
  obtain ⟨s2, g2, v2, e2, h2⟩ := h2
  simp only [putD, Act.put, List.setIfInBounds_toArray, List.set_cons_zero, List.set_cons_succ, e2]
  have H2 := Lib.hid (And.intro h2 hG)
  clear h2 hG HS
  go_wp2_with fail
  go_ret
  exact ⟨s2, g2, v2, rfl, H2.out.1, H2.out.2⟩
end Go.Proofs.Ytgjnencpdafkoaa
