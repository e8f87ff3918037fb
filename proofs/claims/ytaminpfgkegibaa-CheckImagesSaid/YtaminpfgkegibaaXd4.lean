/- Texts joined: CrA NmX NmC NmD NmZ CrcB CrcC CrcR. -/
import Derived.Test.YtaminpfgkegibaaXd3
import Derived.Test.YtaminpfgkegibaaBitsB
import Derived.Test.YtaminpfgkegibaaStr
import Derived.Test.YtaminpfgkegibaaChecked
import Derived.Maps.Ext
import Derived.DeepKeys5
import Derived.Test.YtaminpfgkegibaaRegT
import Derived.Lib.BytesEntry
import Derived.Lib.BufferWrite
import Derived.Laws.Rows
import Derived.Laws.Tables
import Derived.OwnWalk
import Derived.Test.YtaminpfgkegibaaCrcA
import Derived.Deep.RegionHeld3
import Derived.Test.YtaminpfgkegibaaCrcD
import Derived.Test.YtaminpfgkegibaaRegV
import Derived.LoopTactic
/- A graph's words: the objects in them (pure). Conditions: a graph that Check lets. -/
namespace Go.Proofs.Ytaminpfgkegibaa
set_option linter.unusedVariables false
set_option linter.unusedSimpArgs false
open Go.RowKit
set_option maxHeartbeats 1000000
theorem leN_bit : ∀ (l : List (BitVec 8)) (i : Nat), i < 64 → (leN l).getLsbD i = (l.getD (i / 8) 0#8).getLsbD (i % 8)
  | [], i, _ => by unfold leN; simp
  | b :: r, i, h => by
    unfold leN
    rw [BitVec.getLsbD_or, BitVec.getLsbD_shiftLeft, BitVec.getLsbD_setWidth]
    by_cases h8 : i < 8
    · have e1 : i / 8 = 0 := by omega
      have e2 : i % 8 = i := by omega
      rw [e1, e2, List.getD_cons_zero]
      simp [h8, h]
    · obtain ⟨q, hq⟩ : ∃ q, i / 8 = q + 1 := ⟨i / 8 - 1, by omega⟩
      rw [hq, List.getD_cons_succ, leN_bit r (i - 8) (by omega), show (i - 8) / 8 = q from by omega, show (i - 8) % 8 = i % 8 from by omega]
      have e3 : b.getLsbD i = false := BitVec.getLsbD_of_ge _ _ (by omega)
      simp [h8, h, e3]
theorem byte_leN {ws : List (BitVec 64)} {q r : Nat} {l : List (BitVec 8)} (hr : r < 8) (h : ws.getD q 0#64 = leN l) : byteAt ws (8 * q + r) = l.getD r 0#8 := by
  apply BitVec.eq_of_getLsbD_eq
  intro i hi
  rw [byteAt_bit _ _ _ hi, show (8 * q + r) / 8 = q from by omega, show (8 * q + r) % 8 = r from by omega, h, leN_bit _ _ (by omega), show (8 * r + i) / 8 = r from by omega, show (8 * r + i) % 8 = i from by omega]
theorem wordsN_get (bs : List (BitVec 8)) {k i : Nat} (h : i < k) : (wordsN bs k).getD i 0#64 = leN ((bs.drop (8 * i)).take 8) := by
  unfold wordsN
  rw [List.getD_eq_getElem?_getD, List.getElem?_map, List.getElem?_range h]
  rfl
theorem take_getD (l : List (BitVec 8)) {n r : Nat} (h : r < n) : (l.take n).getD r 0#8 = l.getD r 0#8 := by
  rw [List.getD_eq_getElem?_getD, List.getElem?_take, if_pos h, List.getD_eq_getElem?_getD]
theorem drop_getD (l : List (BitVec 8)) (n r : Nat) : (l.drop n).getD r 0#8 = l.getD (n + r) 0#8 := by
  rw [List.getD_eq_getElem?_getD, List.getElem?_drop, List.getD_eq_getElem?_getD]
/-- The bytes that words hold. -/
theorem byte_words {ws : List (BitVec 64)} {a : Nat} {bs : List (BitVec 8)} (h : ∀ i, i < (bs.length + 7) / 8 → ws.getD (a + i) 0#64 = (wordsW bs).getD i 0#64) (j : Nat) (hj : j < 8 * ((bs.length + 7) / 8)) : byteAt ws (8 * a + j) = bs.getD j 0#8 := by
  have h1 : j / 8 < (bs.length + 7) / 8 := by omega
  have h2 := h (j / 8) h1
  unfold wordsW at h2
  rw [wordsN_get bs h1] at h2
  have h3 := byte_leN (ws := ws) (q := a + j / 8) (r := j % 8) (by omega) h2
  rw [show 8 * (a + j / 8) + j % 8 = 8 * a + j from by omega, take_getD _ (by omega), drop_getD, show 8 * (j / 8) + j % 8 = j from by omega] at h3
  exact h3
theorem app_getD {α : Type} (a b : List α) (d : α) {i k : Nat} (h : k = a.length) : (a ++ b).getD (k + i) d = b.getD i d := by
  subst h
  rw [List.getD_eq_getElem?_getD, List.getElem?_append_right (by omega), List.getD_eq_getElem?_getD, show a.length + i - a.length = i from by omega]
theorem app_getL {α : Type} (a b : List α) (d : α) {i : Nat} (h : i < a.length) : (a ++ b).getD i d = a.getD i d := by
  rw [List.getD_eq_getElem?_getD, List.getElem?_append_left h, List.getD_eq_getElem?_getD]
theorem map_getD' {α β : Type} (f : α → β) (l : List α) (d : β) {i : Nat} (h : i < l.length) : (l.map f).getD i d = f l[i] := by
  rw [List.getD_eq_getElem?_getD, List.getElem?_map, List.getElem?_eq_getElem h]
  rfl
/-- Nodes in words, from a place on: each stands where it is said to. -/
theorem at_node (pl : List Nat) : ∀ (l : List Nv) (pre : List (BitVec 64)) (a : Nat), pre.length = a → ∀ y ∈ placeL l a, ∃ x ∈ l, ∀ i, i < szG x → (pre ++ l.flatMap (nodeW pl)).getD (y + i) 0#64 = (nodeW pl x).getD i 0#64
  | [], _, _, _, y, h => by cases h
  | x :: r, pre, a, hp, y, h => by
    rw [List.flatMap_cons, ← List.append_assoc]
    unfold placeL at h
    rcases List.mem_cons.1 h with rfl | h
    · refine ⟨x, List.mem_cons_self .., fun i hi => ?_⟩
      rw [List.append_assoc, app_getD _ _ _ hp.symm, app_getL _ _ _ (by rw [nodeW_len]; exact hi)]
    · obtain ⟨z, hz, h2⟩ := at_node pl r (pre ++ nodeW pl x) (a + szG x) (by rw [List.length_append, nodeW_len, hp]) y h
      exact ⟨z, List.mem_cons_of_mem _ hz, h2⟩
theorem headW_ok {x : Nv} (h1 : x.ps.length ≤ 64) (h2 : x.bs.length ≤ 1024) : (∀ room, szG x ≤ room → goodX (headW x) room = true) ∧ szX (headW x) = szG x ∧ P0 (headW x) = x.ps.length ∧ B0 (headW x) = x.bs.length := by
  have hr : rightH (x.ps.length : Int) (x.bs.length : Int) false 0 = true := by unfold rightH; simp; omega
  have hs : sizeH (x.ps.length : Int) (x.bs.length : Int) false 0 = (szG x : Int) := by
    unfold sizeH szG
    rw [if_pos ⟨hr, rfl⟩]
    omega
  obtain ⟨u1, u2, _, _⟩ := un_pack _ _ _ _ hr
  obtain ⟨g1, g2⟩ := pack_run hr hs
  refine ⟨g1, g2, ?_, ?_⟩
  · unfold P0 headW; rw [u1]; rfl
  · unfold B0 headW; rw [u2]; rfl
theorem found_enc (pl : List Nat) : ∀ (l : List Nv) (pre : List (BitVec 64)) (a n t : Nat), (∀ x ∈ l, x.ps.length ≤ 64 ∧ x.bs.length ≤ 1024) → pre.length = a → t = endL l a → t < a + n → foundN (pre ++ l.flatMap (nodeW pl)) t n a = (placeL l a, none)
  | [], pre, a, 0, t, _, _, ht, hn => by
    have : t = a := ht
    omega
  | [], pre, a, n + 1, t, _, _, ht, hn => by
    have : t = a := ht
    unfold foundN
    rw [if_neg (by omega)]
    rfl
  | x :: r, pre, a, 0, t, _, _, ht, hn => by
    have := endL_ge (x :: r) a
    omega
  | x :: r, pre, a, n + 1, t, hx, hp, ht, hn => by
    obtain ⟨x1, x2⟩ := hx x (List.mem_cons_self ..)
    obtain ⟨g1, g2, _, _⟩ := headW_ok x1 x2
    have hge : a + szG x ≤ t := by rw [ht]; exact endL_ge r _
    have hs : 1 ≤ szG x := by unfold szG; omega
    have hd : (pre ++ (x :: r).flatMap (nodeW pl)).getD a 0#64 = headW x := by
      have h := app_getD pre ((x :: r).flatMap (nodeW pl)) 0#64 (i := 0) hp.symm
      rw [Nat.add_zero] at h
      rw [h]
      rfl
    have ih := found_enc pl r (pre ++ nodeW pl x) (a + szG x) n t (fun y hy => hx y (List.mem_cons_of_mem _ hy)) (by rw [List.length_append, nodeW_len, hp]) ht (by omega)
    have e : pre ++ (x :: r).flatMap (nodeW pl) = pre ++ nodeW pl x ++ r.flatMap (nodeW pl) := by rw [List.flatMap_cons, List.append_assoc]
    unfold foundN
    rw [if_pos (by omega), hd, if_pos (g1 _ (by omega)), g2, e, ih]
    rfl
theorem pointW_in {pl : List Nat} {p : Int} (h : okP pl.length p = true) (hb : ∀ y ∈ pl, y < 8192) : (pointW pl p).toNat = 0 ∨ (1 ≤ (pointW pl p).toNat ∧ (pointW pl p).toNat - 1 ∈ pl) := by
  unfold pointW
  by_cases h0 : p = 0
  · rw [if_pos h0]; exact .inl rfl
  · rw [if_neg h0]
    have hh : 1 ≤ p ∧ p ≤ (pl.length : Int) := by
      unfold okP hasG at h
      simpa [h0] using h
    have hl : p.toNat - 1 < pl.length := by omega
    have hm : pl.getD (p.toNat - 1) 0 ∈ pl := by
      rw [List.getD_eq_getElem?_getD, List.getElem?_eq_getElem hl]
      exact List.getElem_mem hl
    have := hb _ hm
    have e : (BitVec.ofNat 64 (pl.getD (p.toNat - 1) 0 + 1)).toNat = pl.getD (p.toNat - 1) 0 + 1 := by
      rw [BitVec.toNat_ofNat]
      exact Nat.mod_eq_of_lt (by omega)
    rw [e]
    exact .inr ⟨by omega, by rw [Nat.add_sub_cancel]; exact hm⟩
theorem well_enc {pl : List Nat} {ws : List (BitVec 64)} {x : Nv} {y : Nat} (h1 : x.ps.length ≤ 64) (h2 : x.bs.length ≤ 1024) (hp : ∀ p ∈ x.ps, okP pl.length p = true) (hb : ∀ y ∈ pl, y < 8192) (hw : ∀ i, i < szG x → ws.getD (y + i) 0#64 = (nodeW pl x).getD i 0#64) : wellN ws pl y = true := by
  obtain ⟨g1, g2, g3, g4⟩ := headW_ok h1 h2
  have hd : ws.getD y 0#64 = headW x := (hw 0 (by unfold szG; omega)).trans rfl
  unfold wellN
  rw [Bool.and_eq_true, List.all_eq_true]
  refine ⟨fun k hk => ?_, ?_⟩
  · have hk := List.mem_range.1 hk
    rw [hd, g3] at hk
    have e : ws.getD (y + 1 + k) 0#64 = pointW pl x.ps[k] := by
      rw [Nat.add_assoc, hw (1 + k) (by unfold szG; omega), Nat.add_comm 1 k]
      unfold nodeW
      rw [List.getD_cons_succ, app_getL _ _ _ (by rw [List.length_map]; exact hk), map_getD' _ _ _ hk]
    unfold ptrN
    rw [e]
    exact decide_eq_true (pointW_in (hp _ (List.getElem_mem hk)) hb)
  · unfold padN padB
    rw [hd, g2, g3, g4, List.all_eq_true]
    intro c hc
    unfold bytesM at hc
    obtain ⟨k, hk, rfl⟩ := List.mem_map.1 hc
    have hk := List.mem_range.1 hk
    have hq := byte_words (ws := ws) (a := y + 1 + x.ps.length) (bs := x.bs) (fun i hi => by
      rw [Nat.add_assoc y 1, Nat.add_assoc, hw _ (by unfold szG; omega)]
      unfold nodeW
      rw [show 1 + x.ps.length + i = (x.ps.length + i) + 1 from by omega, List.getD_cons_succ, app_getD _ _ _ (List.length_map ..).symm]) (x.bs.length + k) (by unfold szG at hk; omega)
    rw [Nat.add_assoc, hq, List.getD_eq_getElem?_getD, List.getElem?_eq_none (by omega)]
    rfl
theorem at_root (pl : List Nat) : ∀ (rs : List Rv) (pre post : List (BitVec 64)), (∀ r ∈ rs, r.s.size ≤ 32) → ∀ i (hi : i < rs.length) j, j < 5 → (pre ++ rs.flatMap (rootW pl) ++ post).getD (pre.length + 5 * i + j) 0#64 = (rootW pl rs[i]).getD j 0#64
  | [], _, _, _, i, hi, _, _ => absurd hi (Nat.not_lt_zero _)
  | r :: rs, pre, post, h, 0, hi, j, hj => by
    have hl := rootW_len pl (h r (List.mem_cons_self ..))
    rw [List.flatMap_cons, List.append_assoc, List.append_assoc, show pre.length + 5 * 0 + j = pre.length + j from by omega, app_getD _ _ _ rfl, app_getL _ _ _ (by omega)]
    rfl
  | r :: rs, pre, post, h, i + 1, hi, j, hj => by
    have hl := rootW_len pl (h r (List.mem_cons_self ..))
    have ih := at_root pl rs (pre ++ rootW pl r) post (fun y hy => h y (List.mem_cons_of_mem _ hy)) i (by rw [List.length_cons] at hi; omega) j hj
    rw [List.length_append, hl] at ih
    rw [List.flatMap_cons, ← List.append_assoc pre, show pre.length + 5 * (i + 1) + j = pre.length + 5 + 5 * i + j from by omega, ih]
    rfl
/-- What an image of a graph has: its front, its Roots, its objects. -/
theorem enc_found {ns : List Nv} {rs : List Rv} (hx : ∀ x ∈ ns, (∀ p ∈ x.ps, okP ns.length p = true) ∧ x.ps.length ≤ 64 ∧ x.bs.length ≤ 1024) (hr : ∀ r ∈ rs, goodS r.s = true ∧ okP ns.length r.t = true) (ht : endL ns (2 + 5 * rs.length) ≤ 8192) :
    foundN (encW ns rs) (encW ns rs).length ((encW ns rs).length + 1) (2 + 5 * rs.length) = (placeL ns (2 + 5 * rs.length), none) ∧
    allE (encW ns rs) (placeL ns (2 + 5 * rs.length)) (placeL ns (2 + 5 * rs.length)) = [] := by
  have h32 : ∀ r ∈ rs, r.s.size ≤ 32 := fun r hh => (goodS_size (hr r hh).1).2
  have hlen := encW_len ns rs h32
  have hpre : (frontW rs.length (endL ns (2 + 5 * rs.length)) ++ rs.flatMap (rootW (placeL ns (2 + 5 * rs.length)))).length = 2 + 5 * rs.length := by
    rw [List.length_append, roots_len _ rs h32]
    rfl
  refine ⟨?_, ?_⟩
  · unfold encW at hlen ⊢
    exact found_enc _ ns _ _ _ _ (fun x h => (hx x h).2) hpre hlen (by omega)
  · rw [allE_nil, List.all_eq_true]
    intro y hy
    obtain ⟨x, hm, hw⟩ := at_node (placeL ns (2 + 5 * rs.length)) ns _ _ hpre y hy
    obtain ⟨x1, x2, x3⟩ := hx x hm
    exact well_enc x2 x3 (fun p hp => by rw [placeL_len]; exact x1 p hp) (fun z hz => by have := placeL_lt ns _ z hz; omega) hw
theorem bytesM_at (ws : List (BitVec 64)) (a n j : Nat) (h : j < (bytesM ws a n).length) : (bytesM ws a n)[j] = byteAt ws (a + j) := by simp [bytesM]
theorem enc_root {ns : List Nv} {rs : List Rv} (hr : ∀ r ∈ rs, goodS r.s = true ∧ okP ns.length r.t = true) (ht : endL ns (2 + 5 * rs.length) ≤ 8192) (i : Nat) (hi : i < rs.length) :
    bytesM (encW ns rs) (8 * (2 + 5 * i)) 32 = nameW rs[i].s ∧ (((encW ns rs).getD (2 + 5 * i + 4) 0#64).toNat = 0 ∨ (1 ≤ ((encW ns rs).getD (2 + 5 * i + 4) 0#64).toNat ∧ ((encW ns rs).getD (2 + 5 * i + 4) 0#64).toNat - 1 ∈ placeL ns (2 + 5 * rs.length))) := by
  have h32 : ∀ r ∈ rs, r.s.size ≤ 32 := fun r hh => (goodS_size (hr r hh).1).2
  have hm := List.getElem_mem hi
  have hl := nameW_len (h32 _ hm)
  have hww : (wordsW (nameW rs[i].s)).length = 4 := by rw [wordsW_len, hl]
  have hat : ∀ j, j < 5 → (encW ns rs).getD (2 + 5 * i + j) 0#64 = (rootW (placeL ns (2 + 5 * rs.length)) rs[i]).getD j 0#64 := fun j hj => at_root _ rs (frontW rs.length (endL ns (2 + 5 * rs.length))) _ h32 i hi j hj
  constructor
  · apply List.ext_getElem
    · rw [hl]; unfold bytesM; simp
    · intro j h1 h2
      have hj : j < 32 := by rw [hl] at h2; exact h2
      rw [bytesM_at, byte_words (ws := encW ns rs) (a := 2 + 5 * i) (bs := nameW rs[i].s) (fun k hk => by
        rw [hl] at hk
        rw [hat k (by omega)]
        unfold rootW
        rw [app_getL _ _ _ (by omega)]) j (by rw [hl]; omega), List.getD_eq_getElem?_getD, List.getElem?_eq_getElem h2]
      rfl
  · have e : (encW ns rs).getD (2 + 5 * i + 4) 0#64 = pointW (placeL ns (2 + 5 * rs.length)) rs[i].t := by
      rw [hat 4 (by omega)]
      unfold rootW
      have h := app_getD (wordsW (nameW rs[i].s)) [pointW (placeL ns (2 + 5 * rs.length)) rs[i].t] 0#64 (i := 0) hww.symm
      exact h
    rw [e]
    exact pointW_in (by rw [placeL_len]; exact (hr _ hm).2) (fun z hz => by have := placeL_lt ns _ z hz; omega)
end Go.Proofs.Ytaminpfgkegibaa
/- Names of 32 bytes: their cells. No conditions. -/
namespace Go.Proofs.Ytaminpfgkegibaa
set_option linter.unusedVariables false
set_option linter.unusedSimpArgs false
open Go.RowKit Go.Maps
abbrev Nm := List (BitVec 8)
def nW (k : Nm) : Prop := k.length = 32
def nC (k : Nm) : Array Value := (k.map b8).toArray
def nV (k : Nm) : Value := .agg (nC k)
def litB (x : BitVec 8) : Lit := .int .u8 (U8 x)
def keyN (k : Nm) : Lit := .string (keyBytes (k.map litB))
theorem wf8 (x : BitVec 8) : (Lit.int .u8 (U8 x)).wf = true := by
  have h1 := U8_lo x
  have h2 := U8_hi x
  simp [Lit.wf, IntKind.min, IntKind.max, IntKind.signed, IntKind.bits]; omega
theorem lits_u8 (m : Nat) (a : Value) : Try.prog.keyLits (m + 1) 5 [a] = match a with
    | .int q n => if q = .u8 ∧ (Lit.int .u8 n).wf = true then some [.int .u8 n] else none
    | _ => none := by
  unfold Program.keyLits
  rw [Try.underlying5]
  cases a <;> simp
theorem mapM_some {α β : Type} {f : α → Option β} {g : α → β} : ∀ l : List α, (∀ x ∈ l, f x = some (g x)) → l.mapM f = some (l.map g)
  | [], _ => rfl
  | x :: l, h => by
    rw [List.mapM_cons, h x List.mem_cons_self, mapM_some l (fun y hy => h y (List.mem_cons_of_mem _ hy))]
    rfl
theorem flat_one {α : Type} (f : BitVec 8 → α) : ∀ k : Nm, (k.map fun x => [f x]).flatten = k.map f
  | [] => rfl
  | x :: k => by simp only [List.map_cons, List.flatten_cons, flat_one f k]; rfl
theorem cells32 : Try.prog.cellsOf 147 = 32 := by kernel_rfl
theorem cells1 : Try.prog.cellsOf 5 = 1 := by kernel_rfl
theorem lits_name (m : Nat) (cs : List Value) (h : cs.length = 32) : Try.prog.keyLits (m + 2) 147 cs = ((List.range 32).mapM fun i => Try.prog.keyLits (m + 1) 5 ((cs.drop i).take 1)).map List.flatten := by
  conv => lhs; unfold Program.keyLits
  rw [Try.underlying147]
  simp only [cells32, cells1, h, if_true, Nat.mul_one]
theorem lits_nm (m : Nat) (k : Nm) (h : nW k) : Try.prog.keyLits (m + 2) 147 (k.map b8) = some (k.map litB) := by
  rw [lits_name m _ (by rw [List.length_map]; exact h)]
  rw [mapM_some (g := fun i => [litB (k.getD i 0#8)]) _ (fun i hi => by
    have hi : i < k.length := by rw [h]; exact List.mem_range.1 hi
    have e : ((k.map b8).drop i).take 1 = [b8 k[i]] := by
      rw [List.drop_eq_getElem_cons (by rw [List.length_map]; exact hi)]
      simp
    rw [e]
    unfold b8
    rw [lits_u8]
    simp only [wf8, and_self, if_true]
    rw [List.getD_eq_getElem?_getD, List.getElem?_eq_getElem hi]
    rfl)]
  rw [Option.map_some, ← flat_one litB k]
  congr 2
  apply List.ext_getElem
  · simp; exact h.symm
  · intro i h1 h2
    have hi : i < k.length := by simpa using h2
    simp [List.getElem?_eq_getElem hi]
end Go.Proofs.Ytaminpfgkegibaa
/- Names: compared; loaded, stored, copied as whole rows; (table.Name).String. No conditions. -/
namespace Go.Proofs.Ytaminpfgkegibaa
set_option linter.unusedVariables false
set_option linter.unusedSimpArgs false
open Go.RowKit Go.Maps
set_option maxRecDepth 100000
set_option maxHeartbeats 400000
theorem litB_inj {x y : BitVec 8} (h : litB x = litB y) : x = y := by unfold litB at h; injection h with _ h; exact U8_inj h
theorem map_lit_inj : ∀ {k q : Nm}, k.map litB = q.map litB → k = q
  | [], [], _ => rfl
  | [], _ :: _, h => by cases h
  | _ :: _, [], h => by cases h
  | x :: k, y :: q, h => by
    simp only [List.map_cons, List.cons.injEq] at h
    rw [litB_inj h.1, map_lit_inj h.2]
theorem formedN {k : Nm} (h : nW k) : (nV k).formed Try.prog 147 = true := by
  unfold nV Value.formed
  rw [Try.underlying147]
  simp only [cells32]
  have : (nC k).size = 32 := by unfold nC; simp; exact h
  simp [this]
theorem eqN (k q : Nm) (hk : nW k) (hq : nW q) (W : World) : (Op.equalIn 10000 147 (.agg (nC k)) (.agg (nC q))).run Try.prog W = .ok (decide (k = q)) W := by
  obtain ⟨r, hr, hiff⟩ := run_equalIn_deep (P := Try.prog) 9998 2 147 (by kernel_rfl) W 2 2 (nV k) (nV q) (k.map litB) (q.map litB) (formedN hk) (formedN hq)
    (by rw [show (nV k).cells.toList = k.map b8 from by unfold nV nC Value.cells; simp]; exact lits_nm 0 k hk) (by rw [show (nV q).cells.toList = q.map b8 from by unfold nV nC Value.cells; simp]; exact lits_nm 0 q hq)
  have e : r = decide (k = q) := by
    rw [Bool.eq_iff_iff, hiff, decide_eq_true_eq]
    exact ⟨map_lit_inj, fun e => by rw [e]⟩
  rw [← e]
  exact hr
def zN : Nm := List.replicate 32 0#8
theorem zN_w : nW zN := List.length_replicate ..
theorem nC_size {k : Nm} (h : nW k) : (nC k).size = 32 := by unfold nC; simp; exact h
theorem nC_one (k : Nm) : (nC k).all (·.oneCell') = true := by
  unfold nC
  simp [b8_one]
theorem zeroN (W : World) : (zeroValue 147).run Try.prog W = .ok (.agg (nC zN)) W := by
  have e : nC zN = Array.replicate 32 (.int .u8 0) := by
    unfold nC zN
    apply Array.ext'
    simp [b8, U8]
  have h : (zeroValue 147).run Try.prog W = .ok (.agg (Array.replicate 32 (.int .u8 0))) W := by kernel_rfl
  rw [e]; exact h
theorem nrd {w : World} {g B : Nat} {E : TypeId} {k : Nm} (h : Bk w g E (nC k)) (hB : g < B) : Rd b8 w B (some ⟨g, 0, none⟩) k := h.rd rfl hB
theorem setRow_below {w : World} {B g : Nat} (hB : B ≤ g) (cs : Array Value) : Below B w (w.setRow g cs) :=
  ⟨rfl, rfl, rfl, by simp, fun k hk => setRow_other w g k cs (by omega)⟩
section
variable {ops : Array Oper} {rest : List Oper} {o : Oper} {a : Act} {w : World} {Q : Exit → Act → World → Prop}
theorem wp_loadN (hg : o.guard = none) (x : Operand) (ho : o.op = .load 147 x) (g : Nat) (hx : a.eval x = .pointer (some ⟨g, 0, none⟩)) (E : TypeId) (cs : Array Value) (hb : Bk w g E cs) (hs : cs.size = 32)
    (h : wpList Try.prog ops Q rest (a.put o.dst (.agg cs)) w) : wpList Try.prog ops Q (o :: rest) a w :=
  wpList_load_row hg 147 x ho g hx E cs (0, 0) _ hb Try.underlying147 rfl (by rw [hs]; kernel_rfl) h
/-- .. at an operation whose guard holds. -/
theorem wp_loadG (hw : Region.wanted o (yielded ops a.tmps) = true) (x : Operand) (ho : o.op = .load 147 x) (g : Nat) (hx : a.eval x = .pointer (some ⟨g, 0, none⟩)) (E : TypeId) (cs : Array Value) (hb : Bk w g E cs) (hs : cs.size = 32)
    (h : wpList Try.prog ops Q rest (a.put o.dst (.agg cs)) w) : wpList Try.prog ops Q (o :: rest) a w :=
  wpList_step fun _ hK => by
    rw [if_pos hw]
    exact wp_load_row 147 x ho g hx E cs (0, 0) _ hb Try.underlying147 rfl (by rw [hs]; kernel_rfl) (hK _ _ h)
theorem wp_storeN (hg : o.guard = none) (x y : Operand) (ho : o.op = .store 147 x y) (g : Nat) (cs : Array Value) (hx : a.eval x = .pointer (some ⟨g, 0, none⟩)) (hy : a.eval y = .agg cs) (E : TypeId) (old : Array Value) (hb : Bk w g E old)
    (hs : cs.size = 32) (hold : old.size = 32) (h1 : cs.all (·.oneCell') = true)
    (h : ∀ w', Bk w' g E cs → (∀ B, B ≤ g → Below B w w') → (∀ k, k ≠ g → w'.heap[k]? = w.heap[k]?) → wpList Try.prog ops Q rest (a.put o.dst undef) w') : wpList Try.prog ops Q (o :: rest) a w :=
  wpList_store_row hg 147 x y ho g cs hx hy E old hb (by rw [hs]; kernel_rfl) (by rw [hs, hold]) h1
    (h _ (setRow_heap w g old cs E (0, 0) hb) (fun B hB => setRow_below hB cs) (fun k hk => setRow_other w g k cs hk))
theorem wp_copyN (hg : o.guard = none) (d x : Operand) (hop : o.op = Op.call { callee := Callee.builtin Builtin.copy, args := #[d, x], argTypes := #[95, 9] })
    (g : Nat) (hd : a.eval d = .slice (some ⟨g, 0, none⟩) 32 32) (s : ByteArray) (hx : a.eval x = .string s) (E : TypeId) (cur : Array Value) (hb : Bk w g E cur) (hs : cur.size = 32) (hle : s.size ≤ 32)
    (h : ∀ w', Bk w' g E (Lib.byteCells s.data.toList ++ cur.toList.drop s.size).toArray → (∀ B, B ≤ g → Below B w w') → (∀ k, k ≠ g → w'.heap[k]? = w.heap[k]?) → wpList Try.prog ops Q rest (a.put o.dst (.int .i64 s.size)) w') : wpList Try.prog ops Q (o :: rest) a w := by
  refine wpList_plain hg fun K' hK' => ?_
  have hrun := Lib.run_copy_row_string (P := Try.prog) w 95 9 o.type 5 g 0 32 32 s cur E Try.underlying95 (by kernel_rfl) hb hle (by omega)
  unfold Oper.wp execOp
  simp only [hop, resolve, invoke, builtin, Sem.run_bind, Sem.run_pure, Result.andThen_ok, List.map_toArray, List.map_cons, List.map_nil, hd, hx, hrun]
  have e : ((cur.toList.take 0 ++ Lib.byteCells s.data.toList ++ cur.toList.drop (0 + s.size)).toArray) = (Lib.byteCells s.data.toList ++ cur.toList.drop s.size).toArray := by simp
  rw [e]
  exact hK' _ _ (h _ (setRow_heap w g cur _ E (0, 0) hb) (fun B hB => setRow_below hB _) (fun k hk => setRow_other w g k _ hk))
end
/-- The bytes ahead of the first 0. -/
def cutN (k : Nm) : Nm := k.takeWhile fun x => decide (x ≠ 0#8)
theorem cut_len : ∀ k : Nm, (cutN k).length ≤ k.length
  | [] => Nat.le_refl _
  | x :: k => by
    have := cut_len k
    unfold cutN at this ⊢
    rw [List.takeWhile_cons]
    split
    · rw [List.length_cons, List.length_cons]; omega
    · simp
theorem cut_take : ∀ k : Nm, k.take (cutN k).length = cutN k
  | [] => rfl
  | x :: k => by
    have ih := cut_take k
    unfold cutN at ih ⊢
    rw [List.takeWhile_cons]
    split
    · rw [List.length_cons, List.take_succ_cons, ih]
    · rfl
theorem idx_z : ∀ k : Nm, Lib.indexByte (Lib.bytesOf (k.map U8)) 0 = if (cutN k).length < k.length then ((cutN k).length : Int) else -1
  | [] => rfl
  | x :: k => by
    have ih := idx_z k
    show (if (UInt8.ofNat (U8 x).toNat == 0) = true then (0 : Int) else if (Lib.indexByte (Lib.bytesOf (k.map U8)) 0 == -1) = true then -1 else Lib.indexByte (Lib.bytesOf (k.map U8)) 0 + 1) = _
    by_cases hx : x = 0#8
    · subst hx
      have e : cutN (0#8 :: k) = [] := by unfold cutN; rw [List.takeWhile_cons]; simp
      rw [e, if_pos (by decide)]
      simp
    · have e : cutN (x :: k) = x :: cutN k := by unfold cutN; rw [List.takeWhile_cons]; simp [hx]
      have hb : (UInt8.ofNat (U8 x).toNat == 0) = false := by
        rw [beq_eq_false_iff_ne]
        intro h
        apply hx
        have h2 := congrArg UInt8.toNat h
        have hl := x.isLt
        have h3 : (U8 x).toNat = x.toNat := by unfold U8; omega
        rw [h3] at h2
        apply BitVec.eq_of_toNat_eq
        simp at h2 ⊢
        omega
      rw [hb, ih, e]
      have := cut_len k
      simp only [Bool.false_eq_true, if_false, List.length_cons]
      by_cases h : (cutN k).length < k.length
      · have e1 : ((((cutN k).length : Nat) : Int) == -1) = false := by rw [beq_eq_false_iff_ne]; omega
        rw [if_pos h, e1, if_neg (by decide), if_pos (show (cutN k).length + 1 < k.length + 1 by omega)]
        omega
      · rw [if_neg h, if_pos (show ((-1 : Int) == -1) = true by decide), if_neg (show ¬ (cutN k).length + 1 < k.length + 1 by omega)]
theorem ibyte_c (w : World) (g : Nat) (E : TypeId) (k : Nm) (hb : Bk w g E (nC k)) (hk : nW k) : Calls Try.prog 109 #[.slice (some ⟨g, 0, none⟩) 32 32, .int .u8 0] w fun e w' => e = .returned (.int .i64 (if (cutN k).length < 32 then ((cutN k).length : Int) else -1)) ∧ w' = w := by
  have hx : (k.map U8).length = 32 := by rw [List.length_map]; exact hk
  have hc : ∀ i, i < 32 → w.cell? ⟨g, 0 + i, none⟩ = some (.int .u8 ((k.map U8).getD i 0)) := fun i hi => by
    have hi' : i < k.length := by rw [hk]; exact hi
    rw [Nat.zero_add, hb.cell, nC, List.getElem?_toArray, List.getElem?_map, List.getElem?_eq_getElem hi', List.getD_eq_getElem?_getD, List.getElem?_map, List.getElem?_eq_getElem hi']
    rfl
  have hz := idx_z k
  rw [hk] at hz
  rw [← hz]
  have HX := Lib.hid (Lib.run_indexByteSlice (P := Try.prog) (w := w) g 0 32 32 (k.map U8) hx hc 0)
  clear hx hc hb hk hz
  go_enter Try.func109, Try.ntmps109
  go_wp2
  rw [run_callFunc_extern Try.func115 (by kernel_rfl) (by kernel_rfl) (by kernel_rfl) (e := Extern.BytealgIndexByte.indexByte) (by kernel_rfl), HX.out]
  simp only [Result.andThen]
  rw [Oper.upon_value]
  go_wp2
  go_ret
  exact ⟨rfl, rfl⟩
theorem index0_c (w : World) (g q : Nat) (E F : TypeId) (k : Nm) (hb : Bk w g E (nC k)) (hk : nW k) (hq : Bk w q F #[.int .u8 0]) : Calls Try.prog 106 #[.slice (some ⟨g, 0, none⟩) 32 32, .slice (some ⟨q, 0, none⟩) 1 1] w fun e w' => e = .returned (.int .i64 (if (cutN k).length < 32 then ((cutN k).length : Int) else -1)) ∧ w' = w := by
  have HC := Lib.hid (ibyte_c w g E k hb hk)
  obtain ⟨ix, hix⟩ : ∃ ix, ix = (if (cutN k).length < 32 then ((cutN k).length : Int) else -1) := ⟨_, rfl⟩
  rw [← hix] at HC ⊢
  clear hix
  have c0 := hq.cell 0
  clear hb hk hq
  go_enter Try.func106, Try.ntmps106
  go_wp2_with fail
  refine Calls.mono HC.out ?_
  rintro e w' ⟨rfl, rfl⟩
  go_wp2_with fail
  go_ret
  exact ⟨rfl, rfl⟩
theorem cut_reg (Q : Exit → Act → World → Prop) (a0 : Act) (w : World) (A B : Option Addr) (i j : Nat) (hi : i ≤ 32) (hj : Hid ((i : Int) + 1 = (j : Int))) (hj2 : j ≤ 32) (hsz : a0.tmps.size = 23) (sl0 : a0.tmps.getD 0 undef = .slice A 32 32) (sl1 : a0.tmps.getD 1 undef = .slice B 1 1) (sl7 : a0.tmps.getD 7 undef = .int .i64 (i : Int))
    (fin : ∀ (vals : Nat → Value) (w1 : World), Below w.heap.size w w1 → (IsV (.slice A i 32)) (vals 9) w1 → (IsV (.slice (cutA A 32 j) (32 - j) (32 - j))) (vals 10) w1 → (IsV (Go.Value.bool true)) (vals 11) w1 → Q .normal (putD vals [13, 14, 15, 16, 17, 18, 19, 20, 21, 4, 5, 6] 0 a0) w1) :
    (Code.region 3 (regIn Try.f95 3) true).wp Try.prog Q a0 w := by
  refine region_by (G := fun w w1 => Below w.heap.size w w1) [IsV (.slice A 32 32),
    IsV (.int .i64 (i : Int)),
    IsV (.slice A i 32),
    IsV (.slice A 32 32),
    IsV (.int .i64 (i : Int)),
    IsV (.slice B 1 1),
    IsV (.int .i64 1),
    IsV (.int .i64 (j : Int)),
    IsV (.slice (cutA A 32 j) (32 - j) (32 - j)),
    IsV (.slice A i 32),
    IsV (.slice (cutA A 32 j) (32 - j) (32 - j)),
    IsV (Go.Value.bool true)]
    [13, 14, 15, 16, 17, 18, 19, 20, 21, 4, 5, 6] (by kernel_rfl) (Gw.drew _) Gw.trans (by rw [hsz]; kernel_rfl) (by kernel_rfl) ?_ ?_ ?_
  · intro f hf
    simp only [List.mem_cons, List.not_mem_nil, or_false] at hf
    rcases hf with rfl | rfl | rfl | rfl | rfl | rfl | rfl | rfl | rfl | rfl | rfl | rfl <;> intro v a b h g <;> first | exact IsV.mono h
  · refine ⟨?_, ?_, ?_, ?_, ?_, ?_, ?_, ?_, ?_, ?_, ?_, ?_, trivial⟩
    · exact owes_mv 0 (by kernel_rfl) (by kernel_rfl) (by kernel_rfl) sl0 (fun _ => rfl)
    · exact owes_mv 7 (by kernel_rfl) (by kernel_rfl) (by kernel_rfl) sl7 (fun _ => rfl)
    · refine owes_v (Go.Op.slice 95 (Go.Operand.tmp 13) none (some (Go.Operand.tmp 14)) none) 95 [0, 1] (by kernel_rfl) (by kernel_rfl) (by kernel_rfl) rfl fun vals w1 ρ hG hF hρ hcst hfun => ?_
      have e13 : ρ (.tmp 13) = .slice A 32 32 := ((hρ 13).trans (slotJ [0, 1] (by rw [hsz]; decide) (by kernel_rfl))).trans (hF 0 (by decide))
      have e14 : ρ (.tmp 14) = .int .i64 (i : Int) := ((hρ 14).trans (slotJ [0, 1] (by rw [hsz]; decide) (by kernel_rfl))).trans (hF 1 (by decide))
      have p1 : (0 : Int) ≤ (i : Int) := by omega
      have p2 : (i : Int) ≤ (32 : Int) := by omega
      clear hρ hF hcst hfun sl0 sl1 sl7 fin
      exact opv_val (by go_simp <;> rfl) ⟨gw_self _, rfl⟩
    · exact owes_mv 0 (by kernel_rfl) (by kernel_rfl) (by kernel_rfl) sl0 (fun _ => rfl)
    · exact owes_mv 7 (by kernel_rfl) (by kernel_rfl) (by kernel_rfl) sl7 (fun _ => rfl)
    · exact owes_mv 1 (by kernel_rfl) (by kernel_rfl) (by kernel_rfl) sl1 (fun _ => rfl)
    · refine owes_v (Go.Op.call { callee := Go.Callee.builtin Go.Builtin.len, args := #[Go.Operand.tmp 18], argTypes := #[95] }) 3 [5] (by kernel_rfl) (by kernel_rfl) (by kernel_rfl) rfl fun vals w1 ρ hG hF hρ hcst hfun => ?_
      have e18 : ρ (.tmp 18) = .slice B 1 1 := ((hρ 18).trans (slotJ [5] (by rw [hsz]; decide) (by kernel_rfl))).trans (hF 5 (by decide))
      clear hρ hF hcst hfun sl0 sl1 sl7 fin
      exact opv_val (by go_simp <;> rfl) ⟨gw_self _, rfl⟩
    · refine owes_v (Go.Op.binOp Go.BinOp.add 3 (Go.Operand.tmp 17) (Go.Operand.tmp 19) 3) 3 [4, 6] (by kernel_rfl) (by kernel_rfl) (by kernel_rfl) rfl fun vals w1 ρ hG hF hρ hcst hfun => ?_
      have e17 : ρ (.tmp 17) = .int .i64 (i : Int) := ((hρ 17).trans (slotJ [4, 6] (by rw [hsz]; decide) (by kernel_rfl))).trans (hF 4 (by decide))
      have e19 : ρ (.tmp 19) = .int .i64 1 := ((hρ 19).trans (slotJ [4, 6] (by rw [hsz]; decide) (by kernel_rfl))).trans (hF 6 (by decide))
      have k : IntKind.i64.wrap ((i : Int) + 1) = (j : Int) := by rw [hj.out]; exact wrapIn (by omega) (by omega)
      clear hρ hF hcst hfun sl0 sl1 sl7 fin
      exact opv_val (by go_simp <;> rfl) ⟨gw_self _, rfl⟩
    · refine owes_v (Go.Op.slice 95 (Go.Operand.tmp 16) (some (Go.Operand.tmp 20)) none none) 95 [3, 7] (by kernel_rfl) (by kernel_rfl) (by kernel_rfl) rfl fun vals w1 ρ hG hF hρ hcst hfun => ?_
      have e16 : ρ (.tmp 16) = .slice A 32 32 := ((hρ 16).trans (slotJ [3, 7] (by rw [hsz]; decide) (by kernel_rfl))).trans (hF 3 (by decide))
      have e20 : ρ (.tmp 20) = .int .i64 (j : Int) := ((hρ 20).trans (slotJ [3, 7] (by rw [hsz]; decide) (by kernel_rfl))).trans (hF 7 (by decide))
      have p1 : (0 : Int) ≤ (j : Int) := by omega
      have p2 : (j : Int) ≤ (32 : Int) := by omega
      have p3 := sliced_cut A j 32 32
      clear hρ hF hcst hfun sl0 sl1 sl7 fin
      exact opv_val (by go_simp <;> rfl) ⟨gw_self _, rfl⟩
    · exact owes_mvj 2 15 (by kernel_rfl) (by kernel_rfl) (by kernel_rfl) (by kernel_rfl) (by rw [hsz]; decide) (fun v w h => h)
    · exact owes_mvj 8 21 (by kernel_rfl) (by kernel_rfl) (by kernel_rfl) (by kernel_rfl) (by rw [hsz]; decide) (fun v w h => h)
    · refine owes_v (Go.Op.assign (Go.Operand.const (Go.Value.bool true))) 4 [] (by kernel_rfl) (by kernel_rfl) (by kernel_rfl) rfl fun vals w1 ρ hG hF hρ hcst hfun => ?_
      clear hρ hF hfun sl0 sl1 sl7 fin
      exact opv_val (by go_simp <;> rfl) ⟨gw_self _, rfl⟩
  · intro vals w1 hG hF
    exact fin vals w1 hG (hF 9 (by decide +kernel)) (hF 10 (by decide +kernel)) (hF 11 (by decide +kernel))
theorem cut0_c (w : World) (g q : Nat) (E F : TypeId) (k : Nm) (hb : Bk w g E (nC k)) (hk : nW k) (hq : Bk w q F #[.int .u8 0]) : Calls Try.prog 95 #[.slice (some ⟨g, 0, none⟩) 32 32, .slice (some ⟨q, 0, none⟩) 1 1] w fun e w' => ∃ v f, e = .returned (.tuple #[.slice (some ⟨g, 0, none⟩) (cutN k).length 32, v, .bool f]) ∧ Below w.heap.size w w' := by
  have HI := Lib.hid (index0_c w g q E F k hb hk hq)
  have hl := cut_len k
  rw [hk] at hl
  obtain ⟨n, hn⟩ : ∃ n, n = (cutN k).length := ⟨_, rfl⟩
  rw [← hn] at HI hl ⊢
  clear hn hb hk hq
  by_cases h : n < 32
  · rw [if_pos h] at HI
    have p1 : (0 : Int) ≤ (n : Int) := by omega
    go_enter Try.func95, Try.ntmps95
    go_wp2_with fail
    refine Calls.mono HI.out ?_
    rintro e w' ⟨rfl, rfl⟩
    go_wp2_with fail
    refine cut_reg _ _ _ (some ⟨g, 0, none⟩) (some ⟨q, 0, none⟩) n (n + 1) hl (Lib.hid (by omega)) (by omega) rfl rfl rfl rfl ?_
    intro vals w1 hG h4 h5 h6
    unfold IsV at h4 h5 h6
    simp only [putD, Act.put, List.setIfInBounds_toArray, List.set_cons_zero, List.set_cons_succ, h4, h5, h6]
    have HB := Lib.hid hG
    clear h4 h5 h6 hG
    go_wp2_with fail
    go_ret3
    exact ⟨_, _, rfl, HB.out⟩
  · have e : n = 32 := by omega
    subst e
    rw [if_neg h] at HI
    clear h hl
    go_enter Try.func95, Try.ntmps95
    go_wp2_with fail
    refine Calls.mono HI.out ?_
    rintro e w' ⟨rfl, rfl⟩
    go_wp2_with fail
    go_ret3
    exact ⟨_, _, rfl, Below.refl _ _⟩
theorem string_c (w : World) (k : Nm) (hk : nW k) : Calls Try.prog 81 #[nV k] w (RetP (.string (strB (cutN k))) w) := by
  have HS := Lib.hid (nC_size hk)
  have HK := Lib.hid hk
  obtain ⟨arr, harr⟩ : ∃ arr, arr = nC k := ⟨_, rfl⟩
  have HA := Lib.hid harr
  unfold nV
  rw [← harr]
  rw [← harr] at HS
  have HB := Lib.hid (Bk.new w 147 arr)
  have HW := Lib.hid (Gw.alloc w (.cells arr 147))
  clear harr hk
  go_enter Try.func81, Try.ntmps81
  go_wp2_with fail
  refine Calls.mono (cut0_c _ w.heap.size (w.heap.size + 1) 147 5 k (by rw [← HA.out]; exact HB.out.alloc _) HK.out (by have q := Bk.new (w.alloc (.cells arr 147)) 5 #[.int .u8 0]; simpa using q)) ?_
  rintro e w1 ⟨v, f, rfl, b1⟩
  have hrd : Rd b8 w1 w1.heap.size (some ⟨w.heap.size, 0, none⟩) (cutN k) := by
    have q := nrd (k := k) (by rw [← HA.out]; exact (HB.out.alloc _).below b1 (HB.out.alloc _).lt) (Nat.lt_of_lt_of_le (HB.out.alloc (.cells #[.int .u8 0] 5)).lt b1.size)
    have := q.take (cutN k).length
    rwa [cut_take] at this
  have kc := str_conv (cutN k) (some ⟨w.heap.size, 0, none⟩) 32 _ w1 hrd
  have HF := Lib.hid (show Below w.heap.size w w1 from (HW.out.trans ((Gw.alloc _ _).mono (by simp))).trans (b1.mono (by simp; omega)))
  clear b1 hrd
  go_wp2_with fail
  go_ret
  exact ⟨rfl, HF.out⟩
end Go.Proofs.Ytaminpfgkegibaa
/- What table.Fix answers. No conditions. -/
namespace Go.Proofs.Ytaminpfgkegibaa
set_option linter.unusedVariables false
set_option linter.unusedSimpArgs false
open Go.RowKit Go.Maps
set_option maxRecDepth 100000
set_option maxHeartbeats 800000
theorem strB_size (bs : Nm) : (strB bs).size = bs.length := by
  show (strL bs).toArray.size = _
  simp [strL]
theorem strB_cells (bs : Nm) : Lib.byteCells (strB bs).data.toList = bs.map b8 := by
  show Lib.byteCells (strL bs).toArray.toList = _
  unfold Lib.byteCells strL
  simp only [List.map_map]
  rfl
theorem str_eq (x y : Nm) : ((strB x).toList == (strB y).toList) = decide (x = y) := by
  by_cases h : x = y
  · subst h; simp
  · have hne : ¬ (strB x).toList = (strB y).toList := fun e => h (strB_inj (by
      rw [ByteArray.toList_eq, ByteArray.toList_eq] at e
      exact ByteArray.ext (Array.toList_inj.1 e)))
    simp [h, hne]
/-- A text as a name. -/
def padNm (bs : Nm) : Nm := bs ++ List.replicate (32 - bs.length) 0#8
theorem padNm_w {bs : Nm} (h : bs.length ≤ 32) : nW (padNm bs) := by
  unfold nW padNm
  rw [List.length_append, List.length_replicate]
  omega
theorem nC_list (k : Nm) : (nC k).toList = k.map b8 := by unfold nC; simp
theorem pad_cells {bs : Nm} (h : bs.length ≤ 32) : (Lib.byteCells (strB bs).data.toList ++ (nC zN).toList.drop (strB bs).size).toArray = nC (padNm bs) := by
  rw [strB_cells, strB_size, nC_list]
  unfold nC padNm zN
  rw [List.map_append, List.map_replicate, List.map_replicate, List.drop_replicate]
def fixR (bs : Nm) (e1 e2 : Bool) : Value := match e1, e2 with
  | false, true => .tuple #[nV (padNm bs), .int .i64 0]
  | _, _ => .tuple #[nV zN, .int .i64 4]
theorem fix_res {tmps : Array Value} {W : World} {g : Nat} {E : TypeId} {k : Nm} {y : Value} (hk : nW k) (hb : Bk W g E (nC k)) (h2 : tmps.getD 2 undef = .pointer (some ⟨g, 0, none⟩)) (h3 : tmps.getD 3 undef = y) :
    (results Try.f80 tmps).run Try.prog W = .ok (.tuple #[nV k, y]) W := by
  have hl := run_loadVar_row (P := Try.prog) W g E 147 (nC k) (0, 0) _ hb Try.underlying147 rfl (by rw [nC_size hk]; kernel_rfl)
  have h2' : tmps[2]?.getD undef = .pointer (some ⟨g, 0, none⟩) := by simpa using h2
  have h3' : tmps[3]?.getD undef = y := by simpa using h3
  unfold nV
  simp [results, Try.results80, h2', h3', asAddr, hl]
theorem ldN {w : World} {g : Nat} {E : TypeId} {cs : Array Value} (hb : Bk w g E cs) (hs : cs.size = 32) : (loadVar 147 ⟨g, 0, none⟩).run Try.prog w = .ok (.agg cs) w :=
  run_loadVar_row w g E 147 cs (0, 0) _ hb Try.underlying147 rfl (by rw [hs]; kernel_rfl)
theorem fix_long (bs : Nm) (w : World) (h : 32 < bs.length) : Calls Try.prog 80 #[.string (strB bs)] w (RetP (.tuple #[nV zN, .int .i64 4]) w) := by
  obtain ⟨s, hs⟩ : ∃ s, s = strB bs := ⟨_, rfl⟩
  have hz : s.size = bs.length := by rw [hs]; exact strB_size bs
  rw [← hs]
  have q1 : decide ((32 : Int) < (s.size : Int)) = true := by simp; omega
  obtain ⟨za, hza⟩ : ∃ za, za = nC zN := ⟨_, rfl⟩
  have hzero := zeroN
  rw [← hza] at hzero
  have HZ := Lib.hid hza
  have HB := Lib.hid (Bk.new w 147 za)
  have HW := Lib.hid (Gw.alloc w (.cells za 147))
  have HZS := Lib.hid (show za.size = 32 from by rw [hza]; exact nC_size zN_w)
  have HZO := Lib.hid (show za.all (·.oneCell') = true from by rw [hza]; exact nC_one zN)
  clear h hs hz hza
  go_enter Try.func80, Try.ntmps80
  go_wp2_with (refine wp_storeN rfl _ _ rfl w.heap.size za rfl rfl 147 za (HB.out.alloc _) HZS.out HZS.out HZO.out ?_; intro w3 k3 b3 o3)
  refine bodyPost_ret (v := .tuple #[nV zN, .int .i64 4]) (fix_res zN_w (by rw [← HZ.out]; exact k3) rfl rfl) rfl ⟨rfl, ?_⟩
  exact (HW.out.trans ((Gw.alloc _ _).mono (by simp))).trans (b3 _ (Nat.le_refl _))
theorem fix_c (bs : Nm) (w : World) (h : bs.length ≤ 32) (e1 e2 : Bool) (h1 : e1 = decide (padNm bs = zN)) (h2 : e2 = decide (cutN (padNm bs) = bs)) : Calls Try.prog 80 #[.string (strB bs)] w (RetP (fixR bs e1 e2) w) := by
  obtain ⟨s, hs⟩ : ∃ s, s = strB bs := ⟨_, rfl⟩
  have hz : s.size = bs.length := by rw [hs]; exact strB_size bs
  have hpc := pad_cells h
  have hpw := padNm_w h
  have HST := Lib.hid (fun W => string_c W (padNm bs) hpw)
  have hse := str_eq (cutN (padNm bs)) bs
  rw [← h2] at hse
  rw [← hs] at hpc hse ⊢
  have q1 : decide ((32 : Int) < (s.size : Int)) = false := by simp; omega
  obtain ⟨za, hza⟩ : ∃ za, za = nC zN := ⟨_, rfl⟩
  obtain ⟨pa, hpa⟩ : ∃ pa, pa = nC (padNm bs) := ⟨_, rfl⟩
  have hzero := zeroN
  have heq := eqN (padNm bs) zN hpw zN_w
  rw [← hza] at hzero hpc heq
  rw [← hpa] at hpc heq
  rw [← h1] at heq
  unfold nV at HST
  rw [← hpa] at HST
  have HZ := Lib.hid hza
  have HP := Lib.hid hpa
  have HPW := Lib.hid hpw
  have HZS := Lib.hid (show za.size = 32 from by rw [hza]; exact nC_size zN_w)
  have HZO := Lib.hid (show za.all (·.oneCell') = true from by rw [hza]; exact nC_one zN)
  have HPS := Lib.hid (show pa.size = 32 from by rw [hpa]; exact nC_size hpw)
  have HPO := Lib.hid (show pa.all (·.oneCell') = true from by rw [hpa]; exact nC_one _)
  have HSZ := Lib.hid (show s.size ≤ 32 from by omega)
  have HPC := Lib.hid hpc
  obtain ⟨cs, hcs⟩ : ∃ cs, cs = strB (cutN (padNm bs)) := ⟨_, rfl⟩
  rw [← hcs] at hse HST
  have HB := Lib.hid (show Bk ((w.alloc (.cells za 147)).alloc (.cells za 147)) w.heap.size 147 za ∧ Bk ((w.alloc (.cells za 147)).alloc (.cells za 147)) (w.heap.size + 1) 147 za ∧ Below w.heap.size w ((w.alloc (.cells za 147)).alloc (.cells za 147)) from by
    refine ⟨(Bk.new w _ _).alloc _, ?_, (Gw.alloc w _).trans ((Gw.alloc _ _).mono (by simp))⟩
    have q := Bk.new (w.alloc (.cells za 147)) 147 za
    simpa using q)
  obtain ⟨n1, hn1⟩ : ∃ n, n = w.heap.size + 1 := ⟨_, rfl⟩
  have HN := Lib.hid (show w.heap.size ≤ n1 ∧ w.heap.size ≠ n1 from by omega)
  clear h hs hz hza hpa hpc hpw h1 h2 hcs
  cases e1
  · cases e2
    · go_enter Try.func80, Try.ntmps80
      go_wp2_with (first
        | (refine wp_copyN rfl _ _ rfl (w.heap.size + 1) rfl s rfl 147 za HB.out.2.1 HZS.out HSZ.out ?_; intro w3 k3 b3 o3; rw [HPC.out] at k3; have HK3 := Lib.hid k3; have HB3 := Lib.hid (HB.out.2.2.trans (b3 w.heap.size (by omega))); have HR3 := Lib.hid (show Bk w3 w.heap.size 147 za from (o3 _ (by omega)).trans HB.out.1); clear k3 b3 o3)
        | (refine wp_loadG rfl _ rfl (w.heap.size + 1) rfl 147 pa HK3.out HPS.out ?_))
      refine Calls.mono (HST.out _) ?_
      rintro e w4 ⟨rfl, b4⟩
      have HR4 := Lib.hid (HR3.out.below b4 HR3.out.lt)
      have HB4 := Lib.hid (HB3.out.trans (b4.mono HB3.out.size))
      clear b4
      go_wp2_with (refine wp_storeN rfl _ _ rfl w.heap.size za rfl rfl 147 za HR4.out HZS.out HZS.out HZO.out ?_; intro w5 k5 b5 o5)
      refine bodyPost_ret (v := .tuple #[nV zN, .int .i64 4]) (fix_res zN_w (by rw [← HZ.out]; exact k5) rfl rfl) rfl ⟨rfl, ?_⟩
      exact HB4.out.trans (b5 _ (Nat.le_refl _))
    · go_enter Try.func80, Try.ntmps80
      go_wp2_with (first
        | (refine wp_copyN rfl _ _ rfl (w.heap.size + 1) rfl s rfl 147 za HB.out.2.1 HZS.out HSZ.out ?_; intro w3 k3 b3 o3; rw [HPC.out] at k3; have HK3 := Lib.hid k3; have HB3 := Lib.hid (HB.out.2.2.trans (b3 w.heap.size (by omega))); have HR3 := Lib.hid (show Bk w3 w.heap.size 147 za from (o3 _ (by omega)).trans HB.out.1); clear k3 b3 o3)
        | (refine wp_loadG rfl _ rfl (w.heap.size + 1) rfl 147 pa HK3.out HPS.out ?_))
      refine Calls.mono (HST.out _) ?_
      rintro e w4 ⟨rfl, b4⟩
      have HR4 := Lib.hid (HR3.out.below b4 HR3.out.lt)
      have HK4 := Lib.hid (HK3.out.below b4 HK3.out.lt)
      have HB4 := Lib.hid (HB3.out.trans (b4.mono HB3.out.size))
      clear b4
      go_wp2_with (first
        | (refine wp_loadN rfl _ rfl (w.heap.size + 1) rfl 147 pa HK4.out HPS.out ?_)
        | (refine wp_storeN rfl _ _ rfl w.heap.size pa rfl rfl 147 za HR4.out HPS.out HZS.out HPO.out ?_; intro w5 k5 b5 o5))
      refine bodyPost_ret (v := .tuple #[nV (padNm bs), .int .i64 0]) (fix_res HPW.out (by rw [← HP.out]; exact k5) rfl rfl) rfl ⟨rfl, ?_⟩
      exact HB4.out.trans (b5 _ (Nat.le_refl _))
  · go_enter Try.func80, Try.ntmps80
    go_wp2_with (first
      | (refine wp_copyN rfl _ _ rfl (w.heap.size + 1) rfl s rfl 147 za HB.out.2.1 HZS.out HSZ.out ?_; intro w3 k3 b3 o3; rw [HPC.out] at k3; have HK3 := Lib.hid k3; have HB3 := Lib.hid (HB.out.2.2.trans (b3 w.heap.size (by omega))); have HR3 := Lib.hid (show Bk w3 w.heap.size 147 za from (o3 _ (by omega)).trans HB.out.1); clear k3 b3 o3)
      | (refine wp_loadG rfl _ rfl (w.heap.size + 1) rfl 147 pa HK3.out HPS.out ?_)
      | (refine wp_storeN rfl _ _ rfl w.heap.size za rfl rfl 147 za HR3.out HZS.out HZS.out HZO.out ?_; intro w5 k5 b5 o5))
    refine bodyPost_ret (v := .tuple #[nV zN, .int .i64 4]) (fix_res zN_w (by rw [← HZ.out]; exact k5) rfl rfl) rfl ⟨by cases e2 <;> rfl, ?_⟩
    exact HB3.out.trans (b5 _ (Nat.le_refl _))
end Go.Proofs.Ytaminpfgkegibaa
/- Which names may be; table.Fix. No conditions. -/
namespace Go.Proofs.Ytaminpfgkegibaa
set_option linter.unusedVariables false
set_option linter.unusedSimpArgs false
open Go.RowKit Go.Maps
set_option maxRecDepth 100000
set_option maxHeartbeats 800000
/-- May a name be? -/
def goodN (bs : Nm) : Prop := 1 ≤ bs.length ∧ bs.length ≤ 32 ∧ ∀ x ∈ bs, x ≠ 0#8
instance decGood (bs : Nm) : Decidable (goodN bs) := inferInstanceAs (Decidable (1 ≤ bs.length ∧ bs.length ≤ 32 ∧ ∀ x ∈ bs, x ≠ 0#8))
theorem cut_app : ∀ (bs : Nm) (n : Nat), (∀ x ∈ bs, x ≠ 0#8) → cutN (bs ++ List.replicate n 0#8) = bs
  | [], 0, _ => rfl
  | [], n + 1, _ => by
    unfold cutN
    rw [List.nil_append, List.replicate_succ, List.takeWhile_cons]
    simp
  | x :: bs, n, h => by
    have ih := cut_app bs n (fun y hy => h y (List.mem_cons_of_mem _ hy))
    have hx := h x List.mem_cons_self
    unfold cutN at ih ⊢
    rw [List.cons_append, List.takeWhile_cons, if_pos (by simpa using hx), ih]
theorem good_cut {bs : Nm} (h : goodN bs) : cutN (padNm bs) = bs := cut_app bs _ h.2.2
theorem cut_mem : ∀ (k : Nm), ∀ x ∈ cutN k, x ≠ 0#8
  | [], x, h => by cases h
  | y :: k, x, h => by
    unfold cutN at h
    rw [List.takeWhile_cons] at h
    split at h
    · rename_i hy
      rcases List.mem_cons.1 h with rfl | h
      · simpa using hy
      · exact cut_mem k x h
    · cases h
theorem cut_zero : cutN zN = [] := by decide +kernel
theorem good_ne {bs : Nm} (h : goodN bs) : padNm bs ≠ zN := fun e => by
  have h1 := good_cut h
  rw [e, cut_zero] at h1
  have h2 := h.1
  rw [← h1] at h2
  simp at h2
theorem bad_res {bs : Nm} (hl : bs.length ≤ 32) (h : ¬ goodN bs) : padNm bs = zN ∨ cutN (padNm bs) ≠ bs := by
  by_cases h0 : 1 ≤ bs.length
  · right
    intro e
    exact h ⟨h0, hl, fun x hx => cut_mem (padNm bs) x (by rw [e]; exact hx)⟩
  · left
    have : bs = [] := List.eq_nil_of_length_eq_zero (by omega)
    subst this
    rfl
theorem fix_ok (bs : Nm) (w : World) (h : goodN bs) : Calls Try.prog 80 #[.string (strB bs)] w (RetP (.tuple #[nV (padNm bs), .int .i64 0]) w) :=
  fix_c bs w h.2.1 false true (by symm; rw [decide_eq_false_iff_not]; exact good_ne h) (by symm; rw [decide_eq_true_eq]; exact good_cut h)
theorem fix_bad (bs : Nm) (w : World) (h : ¬ goodN bs) : Calls Try.prog 80 #[.string (strB bs)] w (RetP (.tuple #[nV zN, .int .i64 4]) w) := by
  by_cases hl : bs.length ≤ 32
  · have := fix_c bs w hl _ _ rfl rfl
    rcases bad_res hl h with e | e
    · rw [show decide (padNm bs = zN) = true from by rw [decide_eq_true_eq]; exact e] at this
      rwa [show fixR bs true (decide (cutN (padNm bs) = bs)) = .tuple #[nV zN, .int .i64 4] from by cases decide (cutN (padNm bs) = bs) <;> rfl] at this
    · rw [show decide (cutN (padNm bs) = bs) = false from by rw [decide_eq_false_iff_not]; exact e] at this
      rwa [show fixR bs (decide (padNm bs = zN)) false = .tuple #[nV zN, .int .i64 4] from by cases decide (padNm bs = zN) <;> rfl] at this
  · exact fix_long bs w (by omega)
end Go.Proofs.Ytaminpfgkegibaa
/- What crc.Sum, tail and Seal answer. Conditions: at most 2^31 bytes. -/
namespace Go.Proofs.Ytaminpfgkegibaa
set_option linter.unusedVariables false
set_option linter.unusedSimpArgs false
open Go.RowKit
abbrev Pt : Type := Option Addr × List (BitVec 8) × Nat
def Pt.v (p : Pt) : Value := .slice p.1 p.2.1.length p.2.2
def Pt.l (p : Pt) : List (BitVec 8) := p.2.1
def sumC (ls : List (List (BitVec 8))) : BitVec 32 := ls.foldl addC 0
def tailL (s : BitVec 32) : List (BitVec 8) := [s.setWidth 8, (s >>> 8).setWidth 8, (s >>> 16).setWidth 8, (s >>> 24).setWidth 8]
def sealC (bs : List (BitVec 8)) : List (BitVec 8) := bs ++ tailL (addC 0 bs)
set_option maxHeartbeats 400000
theorem m8_0 (s : BitVec 32) : U32 s % 256 = U8 (s.setWidth 8) := by
  rw [← u32_u8]; simp [IntKind.wrap, IntKind.bits, IntKind.signed]
theorem sh8 (s : BitVec 32) : U32 s / (256 : Int) = U32 (s >>> 8) := by rw [show (256 : Int) = 2 ^ 8 from by decide, shrU32]
theorem sh16 (s : BitVec 32) : U32 s / (65536 : Int) = U32 (s >>> 16) := by rw [show (65536 : Int) = 2 ^ 16 from by decide, shrU32]
theorem sh24 (s : BitVec 32) : U32 s / (16777216 : Int) = U32 (s >>> 24) := by rw [show (16777216 : Int) = 2 ^ 24 from by decide, shrU32]
attribute [local go_sem] m8_0 sh8 sh16 sh24 u32_u8
theorem Bk.grown {w w' : World} {g : Nat} {E : TypeId} {cs : Array Value} {row : Option Nat} (h : Bk w g E cs) (hg : w.grownBy w' row) (hne : some g ≠ row) : Bk w' g E cs := (hg.block g h.lt hne).trans h
end Go.Proofs.Ytaminpfgkegibaa
/- What crc.Right answers. Conditions: at most 2^30 bytes. -/
namespace Go.Proofs.Ytaminpfgkegibaa
set_option linter.unusedVariables false
set_option linter.unusedSimpArgs false
open Go.RowKit
def right4 (xs : List (BitVec 8)) (y0 y1 y2 y3 : BitVec 8) : Bool := (addC (0#32) xs).setWidth 8 == y0 && (((addC (0#32) xs) >>> 8).setWidth 8 == y1 && (((addC (0#32) xs) >>> 16).setWidth 8 == y2 && ((addC (0#32) xs) >>> 24).setWidth 8 == y3))
attribute [local go_sem] beqU8
set_option maxHeartbeats 800000
set_option maxRecDepth 100000
end Go.Proofs.Ytaminpfgkegibaa
/- What Sum and Low of loamref2 answer. Conditions: at most 2^31 bytes. -/
namespace Go.Proofs.Ytaminpfgkegibaa
set_option linter.unusedVariables false
set_option linter.unusedSimpArgs false
open Go.RowKit
set_option maxHeartbeats 400000
set_option maxRecDepth 100000
set_option maxHeartbeats 400000
attribute [local go_sem] m8_0 sh8 sh16 sh24 u32_u8
end Go.Proofs.Ytaminpfgkegibaa
