/- What codec.Enc's Words does. Conditions: lengths. -/
import Derived.Test.YteefcimepdbehaaEncB
import Derived.Deep.RegionLaw
import Derived.Deep.AppendLies
namespace Go.Proofs.Yteefcimepdbehaa
set_option linter.unusedVariables false
set_option linter.unusedSimpArgs false
open Go.RowKit
theorem step_app1 {P : Program} {α : Type} {f : α → Value} {t e : TypeId} {z : Value} {bytes : Nat} {w : World} {ops : Array Oper} {o : Oper} {a : Act} {K : Act → World → Prop} {Q : Exit → Act → World → Prop} {E : Prop} (one : One P t e z bytes) (hf : ∀ x, (f x).oneCell' = true) (hgd : o.guard = none) (s x : Operand)
    (ho : o.op = .call { callee := .builtin .append, args := #[s, x], argTypes := #[t, t] })
    (base : Nat) (v : Value) (xs : List α) (hs : a.eval s = v) (hown : Ow f e w base v xs)
    (h : Nat) (c : Nat) (y : α) (hx : a.eval x = .slice (some ⟨h, 0, none⟩) 1 c) (hc : w.cell? ⟨h, 0, none⟩ = some (f y))
    (h63 : xs.length + 1 ≤ 4294967296) (hby : bytes ≤ 32768) (hbase : base ≤ w.heap.size)
    (hk : ∀ A n c w', Ow f e w' base (.slice A n c) (xs ++ [y]) → w.grownBy w' v.ownBlock → ((Value.slice A n c).ownBlock = v.ownBlock ∨ (Value.slice A n c).ownBlock = some w.heap.size) → K (a.put o.dst (.slice A n c)) w') :
    if Region.wanted o (yielded ops a.tmps) = true then Oper.wp P o a w K Q else E := by
  obtain ⟨i, hi, hz, hsize, hbytes⟩ := one.info
  have hzs : z.cells.size = 1 := by rw [one.cell]; rfl
  have hbb : (xs.length + 1) * bytes ≤ 140737488355328 := by
    have := Nat.mul_le_mul h63 hby
    omega
  refine step_append_lies (w := w) hgd s x t ho base e i z 1 bytes one.under hi hz hsize hbytes hzs (by decide) v xs.length (xs.map f) hs hown ⟨h, 0, none⟩ 1 c [f y] hx rfl ?_ ?_ (by decide) (by simp only [maxLen]; omega) hbb hbase w.heap.size rfl ?_
  · intro j u hu
    have hj : j = 0 := by
      have := (List.getElem?_eq_some_iff.1 hu).1
      simp at this; omega
    subst hj
    simp at hu
    subst hu
    exact hc
  · intro u hu
    rw [List.mem_singleton] at hu
    subst hu
    exact hf y
  · intro g cap w' h2 h3 h4 _
    refine hk (some ⟨g, 0, none⟩) (xs.length + 1) cap w' ?_ h3 ?_
    · unfold Ow
      rw [List.length_append, List.length_singleton, List.map_append]
      exact h2
    · rcases h4 with h4 | h4
      · left; rw [h4]; rfl
      · right; rw [h4]; rfl
def u64v (x : BitVec 64) : Value := .int .u64 (U64 x)
def wordsL (ws : List (BitVec 64)) : List (BitVec 8) := uintL (BitVec.ofNat 64 ws.length) ++ (ws.map fun x => lowN x 8).flatten
set_option maxHeartbeats 800000
set_option maxRecDepth 100000
theorem enc_words (w : World) (B g : Nat) (v : Value) (bs : List (BitVec 8)) (A : Option Addr) (c : Nat) (ws : List (BitVec 64)) (h : EncAt w B g v bs) (hr : Rd u64v w w.heap.size A ws) (hap : 0 < ws.length → ∀ a, A = some a → a.block ≠ g ∧ v.ownBlock ≠ some a.block) (hl : bs.length ≤ 268435456) (hx : ws.length ≤ 10000000) :
    Calls Try.prog 23 #[.pointer (some ⟨g, 0, none⟩), .slice A ws.length c] w (EncP B g v (bs ++ wordsL ws) w) := by
  have e0 : IntKind.u64.wrap (ws.length : Int) = U64 (BitVec.ofNat 64 ws.length) := by rw [wrapu64]; rfl
  have HU := Lib.hid (enc_uint w B g v bs (BitVec.ofNat 64 ws.length) h (by omega))
  have HA := Lib.hid hap
  have HR := Lib.hid hr
  clear hap hr
  go_enter Try.func23, Try.ntmps23
  go_wp2_with fail
  refine Calls.mono HU.out ?_
  rintro e w1 ⟨rfl, v1, he, hm⟩
  have hul : (uintL (BitVec.ofNat 64 ws.length)).length ≤ 10 := uintF_len 9 _
  go_wp2_with fail
  go_loopw [14] (fun i wr => ∃ (k : Nat) (v' : Value), k ≤ ws.length ∧ i = .int .i64 k ∧ EncAt wr B g v' (bs ++ (uintL (BitVec.ofNat 64 ws.length) ++ ((ws.take k).map fun x => lowN x 8).flatten)) ∧ Moved w wr g v v') (fun i _ => ws.length - (intOf i).toNat)
  case atStart => exact ⟨0, v1, by omega, rfl, by simpa using he, hm⟩
  case round =>
    obtain ⟨k, v', hk, rfl, he, hm⟩ := hrel
    by_cases hlt : k < ws.length
    · obtain ⟨ad, hA, _, hac⟩ := (HR.out.moved hm HA.out).at_ hlt
      subst hA
      obtain ⟨x, hxx⟩ : ∃ x, x = ws[k] := ⟨_, rfl⟩
      rw [← hxx] at hac
      unfold u64v at hac
      have hflen : ((ws.take k).map fun x => lowN x 8).flatten.length = 8 * k := by
        have : ∀ l : List (BitVec 64), (l.map fun x => lowN x 8).flatten.length = 8 * l.length := by
          intro l
          induction l with
          | nil => rfl
          | cons a l ih => simp only [List.map_cons, List.flatten_cons, List.length_append, ih, lowN_len, List.length_cons]; omega
        rw [this, List.length_take]; omega
      obtain ⟨pre, hpre⟩ : ∃ pre, pre = bs ++ (uintL (BitVec.ofNat 64 ws.length) ++ ((ws.take k).map fun x => lowN x 8).flatten) := ⟨_, rfl⟩
      have hpl : pre.length ≤ 400000000 := by rw [hpre]; simp only [List.length_append, hflen]; omega
      have HN : Hid (bs ++ (uintL (BitVec.ofNat 64 ws.length) ++ ((ws.take (k + 1)).map fun x => lowN x 8).flatten) = pre ++ lowN x 8) := Lib.hid (by
        rw [hpre, take_snoc' _ _ hlt, List.map_append, List.flatten_append, hxx]
        simp)
      rw [← hpre] at he
      clear hpre hxx hflen
      have p1 : (0 : Int) ≤ (k : Int) := by omega
      have p2 : (k : Int) < (ws.length : Int) := by omega
      go_wp2_with fail
      go_loopw [18] (fun i wr => ∃ (j : Nat) (v' : Value), j ≤ 8 ∧ i = .int .i64 j ∧ EncAt wr B g v' (pre ++ lowN x j) ∧ Moved w wr g v v') (fun i _ => 8 - (intOf i).toNat)
      case atStart => exact ⟨0, v', by omega, rfl, by simpa [lowN] using he, hm⟩
      case round =>
        obtain ⟨j, v2, hj, rfl, he2, hm2⟩ := hrel
        by_cases hj8 : j < 8
        · have hcell := he2.blk.cell 0
          have hfree := he2.blk.free 0
          have hgl := he2.blk.lt
          have hll := lowN_len x j
          obtain ⟨A2, n2, c2, rfl⟩ := ow_slice he2.row
          have q1 : (0 : Int) ≤ 8 * (j : Int) := by omega
          have q2 : 8 * (j : Int) < 64 := by omega
          clear e0
          have w8 : IntKind.i64.wrap (8 * (j : Int)) = 8 * (j : Int) := wrapIn (by omega) (by omega)
          have n8 : (8 * (j : Int)).toNat = 8 * j := by omega
          have y1 := u64_u8 (x >>> (8 * j))
          have y2 := u64_u8m (x >>> (8 * j))
          have y3 := shrU64 x (8 * j)
          obtain ⟨y, hy⟩ : ∃ y, y = (x >>> (8 * j)).setWidth 8 := ⟨_, rfl⟩
          rw [← hy] at y1 y2
          have HY : Hid (lowN x (j + 1) = lowN x j ++ [y]) := Lib.hid (by rw [lowN_snoc, hy])
          clear hy
          go_wp2_with fail
          have hcl := ((Bk.new wr 5 #[.int .u8 (U8 y)]).drew.cell 0)
          have hlen : (pre ++ lowN x j).length + 1 ≤ 4294967296 := by simp only [List.length_append, hll]; omega
          have hbase : B ≤ wr.heap.size := by have := he2.ge; omega
          have HCL := Lib.hid hcl
          have HROW : Hid (Ow b8 5 (wr.alloc (.cells #[.int .u8 (U8 y)] 5)).drew B (.slice A2 n2 c2) (pre ++ lowN x j)) := Lib.hid (he2.row.alloc _)
          have HBASE : Hid (B ≤ (wr.alloc (.cells #[.int .u8 (U8 y)] 5)).drew.heap.size) := Lib.hid (Nat.le_trans hbase (by simp))
          have HBLK : Hid (Bk (wr.alloc (.cells #[.int .u8 (U8 y)] 5)).drew g 28 #[.slice A2 n2 c2]) := Lib.hid (he2.blk.alloc _).drew
          clear hcl
          go_region_law (refine step_app1 one8 b8_one rfl (.tmp 25) (.tmp 31) rfl B _ (pre ++ lowN x j) rfl HROW.out wr.heap.size 1 y rfl HCL.out hlen (by decide) HBASE.out ?_; intro A4 n4 c4 w4 ho4 hg4 hv4; have hk4 := bkGrown HBLK.out hg4 (fun e => he2.ne e.symm); have hc4 := hk4.cell 0; have hf4 := hk4.free 0; have hl4 := hk4.lt)
          all_goals
            obtain ⟨s1, s2⟩ := enc_step (o := .cells #[.int .u8 (U8 y)] 5) he2 ho4 ⟨hg4.os, hg4.tape, hg4.output, hg4.size, hg4.block⟩ hv4
            go_wp2_with fail
            go_roundw
            case rel => exact ⟨j + 1, _, by omega, by go_num, by rw [HY.out, ← List.append_assoc]; exact s1, hm2.trans s2⟩
            case measure => (first | (simp [intOf]; done) | (simp [intOf]; omega))
        · have hj' : j = 8 := by omega
          subst hj'
          go_wp2_with fail
          go_roundw
          case rel => exact ⟨k + 1, v2, by omega, by go_num, by rw [HN.out]; exact he2, hm2⟩
          case measure => (first | (simp [intOf]; done) | (simp [intOf]; omega))
    · have hkk : k = ws.length := by omega
      subst hkk
      rw [List.take_length] at he
      go_wp2_with fail
      go_end0
      exact ⟨rfl, v', he, hm⟩
end Go.Proofs.Yteefcimepdbehaa
