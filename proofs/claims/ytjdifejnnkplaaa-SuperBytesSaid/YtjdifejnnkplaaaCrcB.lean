/- What crc.Sum, tail and Seal answer. Conditions: at most 2^31 bytes. -/
import Derived.Test.YtjdifejnnkplaaaCrcA
namespace Go.Proofs.Ytjdifejnnkplaaa
set_option linter.unusedVariables false
set_option linter.unusedSimpArgs false
open Go.RowKit
abbrev Pt : Type := Option Addr × List (BitVec 8) × Nat
def Pt.v (p : Pt) : Value := .slice p.1 p.2.1.length p.2.2
def Pt.l (p : Pt) : List (BitVec 8) := p.2.1
def sumC (ls : List (List (BitVec 8))) : BitVec 32 := ls.foldl addC 0
theorem sumC_snoc (ls : List (List (BitVec 8))) (l : List (BitVec 8)) : sumC (ls ++ [l]) = addC (sumC ls) l := by simp [sumC]
def tailL (s : BitVec 32) : List (BitVec 8) := [s.setWidth 8, (s >>> 8).setWidth 8, (s >>> 16).setWidth 8, (s >>> 24).setWidth 8]
def sealC (bs : List (BitVec 8)) : List (BitVec 8) := bs ++ tailL (addC 0 bs)
set_option maxHeartbeats 400000
theorem sum_c (ps : List Pt) (A : Option Addr) (c : Nat) (w : World) (hr : Rd Pt.v w w.heap.size A ps) (hp : ∀ p ∈ ps, Rd b8 w w.heap.size p.1 p.2.1 ∧ p.2.1.length ≤ 2147483648) (hl : ps.length ≤ 2147483648) :
    Calls Try.prog 32 #[.slice A ps.length c] w (RetP (.int .u32 (U32 (sumC (ps.map Pt.l)))) w) := by
  have HP := Lib.hid hp
  clear hp
  go_enter Try.func32, Try.ntmps32
  go_wp2
  go_loopw [3, 5, 8] (fun r _ i wr => ∃ k : Nat, k ≤ ps.length ∧ i = .int .i64 k ∧ r = .int .u32 (U32 (sumC ((ps.map Pt.l).take k))) ∧ Below w.heap.size w wr) (fun _ _ i _ => ps.length - (intOf i).toNat)
  case atStart => exact ⟨0, by omega, rfl, rfl, Below.refl _ _⟩
  case round =>
    obtain ⟨k, hk', rfl, rfl, hb⟩ := hrel
    by_cases hlt : k < ps.length
    · obtain ⟨ad, rfl, _, hc⟩ := (hr.below hb).at_ hlt
      obtain ⟨hq, hq2⟩ := HP.out ps[k] (List.getElem_mem _)
      have hcs : (ps.map Pt.l).take (k + 1) = (ps.map Pt.l).take k ++ [ps[k].l] := by rw [take_snoc' _ _ (by simpa using hlt), List.getElem_map]
      obtain ⟨q, hqq⟩ : ∃ q, q = ps[k] := ⟨_, rfl⟩
      rw [← hqq] at hc hq hq2 hcs
      obtain ⟨qa, ql, qc⟩ := q
      change wr.cell? (ad.add k) = some (.slice qa ql.length qc) at hc
      have HCS := Lib.hid hcs
      clear hcs hqq
      go_wp2_with fail
      refine (add_c _ ql qa qc wr ((hq.below hb).more hb.size) hq2).mono ?_
      rintro e w2 ⟨rfl, hb2⟩
      go_wp2_with fail
      go_roundw
      case rel => exact ⟨k + 1, by omega, by go_num, by rw [HCS.out, sumC_snoc]; rfl, hb.trans (hb2.mono hb.size)⟩
      case measure => (first | (simp [intOf]; done) | (simp [intOf]; omega))
    · have hkk : (ps.map Pt.l).take k = ps.map Pt.l := List.take_of_length_le (by simp; omega)
      rw [hkk]
      clear hkk
      go_wp2
      go_ret
      exact ret_i rfl hb
theorem ret_cells' {v v' : Value} {w w' : World} (h : v = v') (hb : Below w.heap.size w w') : RetP v' w (.returned v) w' := ⟨by rw [h], hb⟩
theorem m8_0 (s : BitVec 32) : U32 s % 256 = U8 (s.setWidth 8) := by
  rw [← u32_u8]; simp [IntKind.wrap, IntKind.bits, IntKind.signed]
theorem sh8 (s : BitVec 32) : U32 s / (256 : Int) = U32 (s >>> 8) := by rw [show (256 : Int) = 2 ^ 8 from by decide, shrU32]
theorem sh16 (s : BitVec 32) : U32 s / (65536 : Int) = U32 (s >>> 16) := by rw [show (65536 : Int) = 2 ^ 16 from by decide, shrU32]
theorem sh24 (s : BitVec 32) : U32 s / (16777216 : Int) = U32 (s >>> 24) := by rw [show (16777216 : Int) = 2 ^ 24 from by decide, shrU32]
attribute [local go_sem] m8_0 sh8 sh16 sh24 u32_u8
theorem tail_c (s : BitVec 32) (w : World) : Calls Try.prog 31 #[.int .u32 (U32 s)] w (RetP (.agg #[.int .u8 (U8 (s.setWidth 8)), .int .u8 (U8 ((s >>> 8).setWidth 8)), .int .u8 (U8 ((s >>> 16).setWidth 8)), .int .u8 (U8 ((s >>> 24).setWidth 8))]) w) := by
  go_enter Try.func31, Try.ntmps31
  go_wp2
  exact bodyPost_ret (v := .agg #[.int .u8 (U8 (s.setWidth 8)), .int .u8 (U8 ((s >>> 8).setWidth 8)), .int .u8 (U8 ((s >>> 16).setWidth 8)), .int .u8 (U8 ((s >>> 24).setWidth 8))]) (by simp [results, Try.results31, go_sem]) rfl (ret_cells' rfl (by repeat (first | with_reducible assumption | with_reducible exact Below.refl _ _ | with_reducible apply bdN | with_reducible apply Below.drew | with_reducible refine Below.alloc ?_ (by simp) _ | with_reducible refine Below.setCell ?_ (by simp) _)))
/-- 'make([]T, 0, n)'. -/
theorem wp_make0 {P : Program} {α : Type} {f : α → Value} {t e : TypeId} {z : Value} {bytes : Nat} {w : World} {ops : Array Oper} {rest : List Oper} {o : Oper} {a : Act} {Q : Exit → Act → World → Prop} (one : One P t e z bytes) (hgd : o.guard = none) (l c : Operand) (hop : o.op = Op.makeSlice t l c)
    (base n : Nat) (kl kc : IntKind) (C : Int) (hl : a.eval l = .int kl 0) (hc : a.eval c = .int kc C) (hC : C = (n : Int)) (hn : n ≤ 4294967296) (hby : bytes ≤ 32768) (hbase : base ≤ w.heap.size)
    (h : ∀ w', Ow f e w' base (.slice (some ⟨w.heap.size, 0, none⟩) 0 n) [] → Below w.heap.size w w' → wpList P ops Q rest (a.put o.dst (.slice (some ⟨w.heap.size, 0, none⟩) 0 n)) w') :
    wpList P ops Q (o :: rest) a w := by
  obtain ⟨i, hi, hz, hsize, hbytes⟩ := one.info
  have hbb : i.bytes * n ≤ 281474976710656 := by
    rw [hbytes]
    have := Nat.mul_le_mul hby hn
    omega
  refine wpList_make_own w hgd l c t hop base e i z 1 one.under hi hz hsize kl kc C n hl hc hC hbb (by simp only [maxLen]; omega) hbase ?_
  intro w' ho hg
  exact h w' ho ((Below.refl _ _).grown hg (Nat.le_refl _) (by simp))
theorem Bk.grown {w w' : World} {g : Nat} {E : TypeId} {cs : Array Value} {row : Option Nat} (h : Bk w g E cs) (hg : w.grownBy w' row) (hne : some g ≠ row) : Bk w' g E cs := (hg.block g h.lt hne).trans h
theorem sum1_c (bs : List (BitVec 8)) (A : Option Addr) (c g : Nat) (w : World) (E : TypeId) (hk : Bk w g E #[.slice A bs.length c]) (hr : Rd b8 w w.heap.size A bs) (hl : bs.length ≤ 2147483648) :
    Calls Try.prog 32 #[.slice (some ⟨g, 0, none⟩) 1 1] w (RetP (.int .u32 (U32 (addC 0 bs))) w) := by
  refine sum_c [((A, bs, c) : Pt)] (some ⟨g, 0, none⟩) 1 w (hk.rd rfl hk.lt) ?_ (by simp)
  intro p hp
  rw [List.mem_singleton] at hp
  subst hp
  exact ⟨hr, hl⟩
theorem seal_c (bs : List (BitVec 8)) (A : Option Addr) (c : Nat) (w : World) (hr : Rd b8 w w.heap.size A bs) (hl : bs.length ≤ 1073741824) :
    Calls Try.prog 20 #[.slice A bs.length c] w (MkP b8 5 (sealC bs) w) := by
  have hbk := Bk.new w 29 #[.slice A bs.length c]
  go_enter Try.func20, Try.ntmps20
  go_wp2_with fail
  refine (sum1_c bs A c w.heap.size _ _ hbk ((hr.alloc (Nat.le_refl _) _).more (by simp)) (by omega)).mono ?_
  rintro e w1 ⟨rfl, hb1⟩
  have hB1 : Below w.heap.size w w1 := ((Below.refl _ _).alloc (Nat.le_refl _) _).trans (hb1.mono (by simp))
  clear hb1 hbk
  go_wp2_with fail
  refine (tail_c _ _).mono ?_
  rintro e w2 ⟨rfl, hb2⟩
  have hB2 := hB1.trans (hb2.mono hB1.size)
  clear hb2 hB1
  have hk2 := Bk.new w2 64 #[.int .u8 (U8 ((addC 0 bs).setWidth 8)), .int .u8 (U8 (((addC 0 bs) >>> 8).setWidth 8)), .int .u8 (U8 (((addC 0 bs) >>> 16).setWidth 8)), .int .u8 (U8 (((addC 0 bs) >>> 24).setWidth 8))]
  have hB2' := hB2.alloc hB2.size (.cells #[.int .u8 (U8 ((addC 0 bs).setWidth 8)), .int .u8 (U8 (((addC 0 bs) >>> 8).setWidth 8)), .int .u8 (U8 (((addC 0 bs) >>> 16).setWidth 8)), .int .u8 (U8 (((addC 0 bs) >>> 24).setWidth 8))] 64)
  go_wp2_with (first
    | (at_make; refine wp_make0 (f := b8) one8 rfl _ _ rfl w.heap.size (bs.length + 4) _ _ _ rfl rfl (by simp) (by omega) (by decide) hB2'.size ?_; intro w3 ho3 hb3; simp only [World.size_alloc] at ho3; have hk3 := hk2.below hb3 hk2.lt; have hB3 := hB2'.trans (hb3.mono hB2'.size))
    | (at_builtin; refine wp_app one8 b8_one rfl (.tmp 13) (.tmp 14) rfl w.heap.size _ [] rfl ho3 A bs.length c bs rfl rfl w.heap.size (hr.below hB3) (by simp; omega) (by decide) hB3.size ?_; intro v4 w4 ho4 hb4 hg4 _; have hk4 := hk3.grown hg4 (by simp [Value.ownBlock, Act.eval]); have hB4 := hB3.trans hb4)
    | (at_builtin; refine wp_app one8 b8_one rfl (.tmp 16) (.tmp 17) rfl w.heap.size v4 ([] ++ bs) rfl ho4 (some ⟨w2.heap.size, 0, none⟩) 4 4 (tailL (addC 0 bs)) rfl rfl w4.heap.size (hk4.rd rfl hk4.lt) (by simp [tailL]; omega) (by decide) hB4.size ?_; intro v5 w5 ho5 hb5 _ _)
    )
  go_ret
  exact MkP.of (by simpa [sealC] using ho5) (hB4.trans hb5)
end Go.Proofs.Ytjdifejnnkplaaa
