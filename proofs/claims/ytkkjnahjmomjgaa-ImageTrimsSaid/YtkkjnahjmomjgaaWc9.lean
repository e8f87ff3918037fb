/- Texts joined: PcA CrA DcA ImA ImB DcB NmV RegT2. -/
import Derived.Test.YtkkjnahjmomjgaaWc8
import Derived.Test.YtkkjnahjmomjgaaHdL
import Derived.Test.YtkkjnahjmomjgaaHdK
import Derived.Test.YtkkjnahjmomjgaaGrD
import Derived.Test.YtkkjnahjmomjgaaGrO
import Derived.Laws.ResultCell
import Derived.Laws.Rows
import Derived.Test.YtkkjnahjmomjgaaRegT
/- What is wrong of objects (pure). No conditions. -/
namespace Go.Proofs.Ytkkjnahjmomjgaa
set_option linter.unusedVariables false
set_option linter.unusedSimpArgs false
open Go.RowKit
def headS : ByteArray := ⟨#[104, 101, 97, 100]⟩
def ptrS : ByteArray := ⟨#[112, 116, 114]⟩
def padS : ByteArray := ⟨#[112, 97, 100]⟩
/-- Objects from a place on, and where the walk ends for want of one. -/
def foundN (ws : List (BitVec 64)) (top : Nat) : Nat → Nat → List Nat × Option Nat
  | 0, _ => ([], none)
  | n + 1, a => if a < top then (if goodX (ws.getD a 0#64) (top - a) = true then (a :: (foundN ws top n (a + szX (ws.getD a 0#64))).1, (foundN ws top n (a + szX (ws.getD a 0#64))).2) else ([], some a)) else ([], none)
/-- What is wrong of the pointers of an object, from the k-th on. -/
def ptrF (ws : List (BitVec 64)) (p : List Nat) (a : Nat) : Nat → Nat → List (Nat × ByteArray)
  | 0, _ => []
  | n + 1, k => if ptrN ws p a k = true then ptrF ws p a n (k + 1) else (a + 1 + k, ptrS) :: ptrF ws p a n (k + 1)
def padF (ws : List (BitVec 64)) (a : Nat) : List (Nat × ByteArray) := if padN ws a = true then [] else [(a + szX (ws.getD a 0#64) - 1, padS)]
def objE (ws : List (BitVec 64)) (p : List Nat) (a : Nat) : List (Nat × ByteArray) := ptrF ws p a (P0 (ws.getD a 0#64)) 0 ++ padF ws a
def allE (ws : List (BitVec 64)) (p : List Nat) : List Nat → List (Nat × ByteArray)
  | [] => []
  | a :: r => objE ws p a ++ allE ws p r
def badF : Option Nat → List (Nat × ByteArray)
  | none => []
  | some x => [(x, headS)]
def spaceF (ws : List (BitVec 64)) (b t : Nat) : List (Nat × ByteArray) := badF (foundN ws t (t + 1) b).2 ++ allE ws (foundN ws t (t + 1) b).1 (foundN ws t (t + 1) b).1
theorem ptrF_nil (ws : List (BitVec 64)) (p : List Nat) (a : Nat) : ∀ n k, ptrF ws p a n k = [] ↔ ∀ i, k ≤ i → i < k + n → ptrN ws p a i = true
  | 0, k => ⟨fun _ i h1 h2 => by omega, fun _ => rfl⟩
  | n + 1, k => by
    unfold ptrF
    by_cases h : ptrN ws p a k = true
    · rw [if_pos h, ptrF_nil ws p a n (k + 1)]
      constructor
      · intro h2 i h3 h4
        by_cases e : i = k
        · rw [e]; exact h
        · exact h2 i (by omega) (by omega)
      · intro h2 i h3 h4
        exact h2 i (by omega) (by omega)
    · rw [if_neg h]
      constructor
      · intro h2; cases h2
      · intro h2; exact absurd (h2 k (Nat.le_refl _) (by omega)) h
theorem objE_nil (ws : List (BitVec 64)) (p : List Nat) (a : Nat) : objE ws p a = [] ↔ wellN ws p a = true := by
  unfold objE wellN
  rw [List.append_eq_nil_iff, ptrF_nil, Bool.and_eq_true, List.all_eq_true]
  constructor
  · rintro ⟨h1, h2⟩
    refine ⟨fun i hi => h1 i (Nat.zero_le _) (by have := List.mem_range.1 hi; omega), ?_⟩
    unfold padF at h2
    by_cases h : padN ws a = true
    · exact h
    · rw [if_neg h] at h2; cases h2
  · rintro ⟨h1, h2⟩
    refine ⟨fun i _ hi => h1 i (List.mem_range.2 (by omega)), ?_⟩
    unfold padF
    rw [if_pos h2]
theorem allE_nil (ws : List (BitVec 64)) (p : List Nat) : ∀ r, allE ws p r = [] ↔ r.all (wellN ws p) = true
  | [] => ⟨fun _ => rfl, fun _ => rfl⟩
  | a :: r => by
    unfold allE
    rw [List.append_eq_nil_iff, objE_nil, allE_nil ws p r, List.all_cons, Bool.and_eq_true]
end Go.Proofs.Ytkkjnahjmomjgaa
/- A graph's words: the objects in them (pure). Conditions: a graph that Check lets. -/
namespace Go.Proofs.Ytkkjnahjmomjgaa
set_option linter.unusedVariables false
set_option linter.unusedSimpArgs false
open Go.RowKit
set_option maxHeartbeats 1000000
theorem leN_bit : ∀ (l : List (BitVec 8)) (i : Nat), i < 64 → (leN l).getLsbD i = (l.getD (i / 8) 0#8).getLsbD (i % 8)
  | [], i, _ => by unfold leN; simp
  | b :: r, i, h => by
    unfold leN
    rw [BitVec.getLsbD_or, BitVec.getLsbD_shiftLeft, BitVec.getLsbD_setWidth]
    by_cases h8 : i < 8
    · have e1 : i / 8 = 0 := by omega
      have e2 : i % 8 = i := by omega
      rw [e1, e2, List.getD_cons_zero]
      simp [h8, h]
    · obtain ⟨q, hq⟩ : ∃ q, i / 8 = q + 1 := ⟨i / 8 - 1, by omega⟩
      rw [hq, List.getD_cons_succ, leN_bit r (i - 8) (by omega), show (i - 8) / 8 = q from by omega, show (i - 8) % 8 = i % 8 from by omega]
      have e3 : b.getLsbD i = false := BitVec.getLsbD_of_ge _ _ (by omega)
      simp [h8, h, e3]
theorem byte_leN {ws : List (BitVec 64)} {q r : Nat} {l : List (BitVec 8)} (hr : r < 8) (h : ws.getD q 0#64 = leN l) : byteAt ws (8 * q + r) = l.getD r 0#8 := by
  apply BitVec.eq_of_getLsbD_eq
  intro i hi
  rw [byteAt_bit _ _ _ hi, show (8 * q + r) / 8 = q from by omega, show (8 * q + r) % 8 = r from by omega, h, leN_bit _ _ (by omega), show (8 * r + i) / 8 = r from by omega, show (8 * r + i) % 8 = i from by omega]
theorem wordsN_get (bs : List (BitVec 8)) {k i : Nat} (h : i < k) : (wordsN bs k).getD i 0#64 = leN ((bs.drop (8 * i)).take 8) := by
  unfold wordsN
  rw [List.getD_eq_getElem?_getD, List.getElem?_map, List.getElem?_range h]
  rfl
theorem take_getD (l : List (BitVec 8)) {n r : Nat} (h : r < n) : (l.take n).getD r 0#8 = l.getD r 0#8 := by
  rw [List.getD_eq_getElem?_getD, List.getElem?_take, if_pos h, List.getD_eq_getElem?_getD]
theorem drop_getD (l : List (BitVec 8)) (n r : Nat) : (l.drop n).getD r 0#8 = l.getD (n + r) 0#8 := by
  rw [List.getD_eq_getElem?_getD, List.getElem?_drop, List.getD_eq_getElem?_getD]
/-- The bytes that words hold. -/
theorem byte_words {ws : List (BitVec 64)} {a : Nat} {bs : List (BitVec 8)} (h : ∀ i, i < (bs.length + 7) / 8 → ws.getD (a + i) 0#64 = (wordsW bs).getD i 0#64) (j : Nat) (hj : j < 8 * ((bs.length + 7) / 8)) : byteAt ws (8 * a + j) = bs.getD j 0#8 := by
  have h1 : j / 8 < (bs.length + 7) / 8 := by omega
  have h2 := h (j / 8) h1
  unfold wordsW at h2
  rw [wordsN_get bs h1] at h2
  have h3 := byte_leN (ws := ws) (q := a + j / 8) (r := j % 8) (by omega) h2
  rw [show 8 * (a + j / 8) + j % 8 = 8 * a + j from by omega, take_getD _ (by omega), drop_getD, show 8 * (j / 8) + j % 8 = j from by omega] at h3
  exact h3
theorem app_getD {α : Type} (a b : List α) (d : α) {i k : Nat} (h : k = a.length) : (a ++ b).getD (k + i) d = b.getD i d := by
  subst h
  rw [List.getD_eq_getElem?_getD, List.getElem?_append_right (by omega), List.getD_eq_getElem?_getD, show a.length + i - a.length = i from by omega]
theorem app_getL {α : Type} (a b : List α) (d : α) {i : Nat} (h : i < a.length) : (a ++ b).getD i d = a.getD i d := by
  rw [List.getD_eq_getElem?_getD, List.getElem?_append_left h, List.getD_eq_getElem?_getD]
theorem map_getD' {α β : Type} (f : α → β) (l : List α) (d : β) {i : Nat} (h : i < l.length) : (l.map f).getD i d = f l[i] := by
  rw [List.getD_eq_getElem?_getD, List.getElem?_map, List.getElem?_eq_getElem h]
  rfl
/-- Nodes in words, from a place on: each stands where it is said to. -/
theorem at_node (pl : List Nat) : ∀ (l : List Nv) (pre : List (BitVec 64)) (a : Nat), pre.length = a → ∀ y ∈ placeL l a, ∃ x ∈ l, ∀ i, i < szG x → (pre ++ l.flatMap (nodeW pl)).getD (y + i) 0#64 = (nodeW pl x).getD i 0#64
  | [], _, _, _, y, h => by cases h
  | x :: r, pre, a, hp, y, h => by
    rw [List.flatMap_cons, ← List.append_assoc]
    unfold placeL at h
    rcases List.mem_cons.1 h with rfl | h
    · refine ⟨x, List.mem_cons_self .., fun i hi => ?_⟩
      rw [List.append_assoc, app_getD _ _ _ hp.symm, app_getL _ _ _ (by rw [nodeW_len]; exact hi)]
    · obtain ⟨z, hz, h2⟩ := at_node pl r (pre ++ nodeW pl x) (a + szG x) (by rw [List.length_append, nodeW_len, hp]) y h
      exact ⟨z, List.mem_cons_of_mem _ hz, h2⟩
theorem headW_ok {x : Nv} (h1 : x.ps.length ≤ 64) (h2 : x.bs.length ≤ 1024) : (∀ room, szG x ≤ room → goodX (headW x) room = true) ∧ szX (headW x) = szG x ∧ P0 (headW x) = x.ps.length ∧ B0 (headW x) = x.bs.length := by
  have hr : rightH (x.ps.length : Int) (x.bs.length : Int) false 0 = true := by unfold rightH; simp; omega
  have hs : sizeH (x.ps.length : Int) (x.bs.length : Int) false 0 = (szG x : Int) := by
    unfold sizeH szG
    rw [if_pos ⟨hr, rfl⟩]
    omega
  obtain ⟨u1, u2, _, _⟩ := un_pack _ _ _ _ hr
  obtain ⟨g1, g2⟩ := pack_run hr hs
  refine ⟨g1, g2, ?_, ?_⟩
  · unfold P0 headW; rw [u1]; rfl
  · unfold B0 headW; rw [u2]; rfl
theorem found_enc (pl : List Nat) : ∀ (l : List Nv) (pre : List (BitVec 64)) (a n t : Nat), (∀ x ∈ l, x.ps.length ≤ 64 ∧ x.bs.length ≤ 1024) → pre.length = a → t = endL l a → t < a + n → foundN (pre ++ l.flatMap (nodeW pl)) t n a = (placeL l a, none)
  | [], pre, a, 0, t, _, _, ht, hn => by
    have : t = a := ht
    omega
  | [], pre, a, n + 1, t, _, _, ht, hn => by
    have : t = a := ht
    unfold foundN
    rw [if_neg (by omega)]
    rfl
  | x :: r, pre, a, 0, t, _, _, ht, hn => by
    have := endL_ge (x :: r) a
    omega
  | x :: r, pre, a, n + 1, t, hx, hp, ht, hn => by
    obtain ⟨x1, x2⟩ := hx x (List.mem_cons_self ..)
    obtain ⟨g1, g2, _, _⟩ := headW_ok x1 x2
    have hge : a + szG x ≤ t := by rw [ht]; exact endL_ge r _
    have hs : 1 ≤ szG x := by unfold szG; omega
    have hd : (pre ++ (x :: r).flatMap (nodeW pl)).getD a 0#64 = headW x := by
      have h := app_getD pre ((x :: r).flatMap (nodeW pl)) 0#64 (i := 0) hp.symm
      rw [Nat.add_zero] at h
      rw [h]
      rfl
    have ih := found_enc pl r (pre ++ nodeW pl x) (a + szG x) n t (fun y hy => hx y (List.mem_cons_of_mem _ hy)) (by rw [List.length_append, nodeW_len, hp]) ht (by omega)
    have e : pre ++ (x :: r).flatMap (nodeW pl) = pre ++ nodeW pl x ++ r.flatMap (nodeW pl) := by rw [List.flatMap_cons, List.append_assoc]
    unfold foundN
    rw [if_pos (by omega), hd, if_pos (g1 _ (by omega)), g2, e, ih]
    rfl
theorem pointW_in {pl : List Nat} {p : Int} (h : okP pl.length p = true) (hb : ∀ y ∈ pl, y < 8192) : (pointW pl p).toNat = 0 ∨ (1 ≤ (pointW pl p).toNat ∧ (pointW pl p).toNat - 1 ∈ pl) := by
  unfold pointW
  by_cases h0 : p = 0
  · rw [if_pos h0]; exact .inl rfl
  · rw [if_neg h0]
    have hh : 1 ≤ p ∧ p ≤ (pl.length : Int) := by
      unfold okP hasG at h
      simpa [h0] using h
    have hl : p.toNat - 1 < pl.length := by omega
    have hm : pl.getD (p.toNat - 1) 0 ∈ pl := by
      rw [List.getD_eq_getElem?_getD, List.getElem?_eq_getElem hl]
      exact List.getElem_mem hl
    have := hb _ hm
    have e : (BitVec.ofNat 64 (pl.getD (p.toNat - 1) 0 + 1)).toNat = pl.getD (p.toNat - 1) 0 + 1 := by
      rw [BitVec.toNat_ofNat]
      exact Nat.mod_eq_of_lt (by omega)
    rw [e]
    exact .inr ⟨by omega, by rw [Nat.add_sub_cancel]; exact hm⟩
theorem well_enc {pl : List Nat} {ws : List (BitVec 64)} {x : Nv} {y : Nat} (h1 : x.ps.length ≤ 64) (h2 : x.bs.length ≤ 1024) (hp : ∀ p ∈ x.ps, okP pl.length p = true) (hb : ∀ y ∈ pl, y < 8192) (hw : ∀ i, i < szG x → ws.getD (y + i) 0#64 = (nodeW pl x).getD i 0#64) : wellN ws pl y = true := by
  obtain ⟨g1, g2, g3, g4⟩ := headW_ok h1 h2
  have hd : ws.getD y 0#64 = headW x := (hw 0 (by unfold szG; omega)).trans rfl
  unfold wellN
  rw [Bool.and_eq_true, List.all_eq_true]
  refine ⟨fun k hk => ?_, ?_⟩
  · have hk := List.mem_range.1 hk
    rw [hd, g3] at hk
    have e : ws.getD (y + 1 + k) 0#64 = pointW pl x.ps[k] := by
      rw [Nat.add_assoc, hw (1 + k) (by unfold szG; omega), Nat.add_comm 1 k]
      unfold nodeW
      rw [List.getD_cons_succ, app_getL _ _ _ (by rw [List.length_map]; exact hk), map_getD' _ _ _ hk]
    unfold ptrN
    rw [e]
    exact decide_eq_true (pointW_in (hp _ (List.getElem_mem hk)) hb)
  · unfold padN padB
    rw [hd, g2, g3, g4, List.all_eq_true]
    intro c hc
    unfold bytesM at hc
    obtain ⟨k, hk, rfl⟩ := List.mem_map.1 hc
    have hk := List.mem_range.1 hk
    have hq := byte_words (ws := ws) (a := y + 1 + x.ps.length) (bs := x.bs) (fun i hi => by
      rw [Nat.add_assoc y 1, Nat.add_assoc, hw _ (by unfold szG; omega)]
      unfold nodeW
      rw [show 1 + x.ps.length + i = (x.ps.length + i) + 1 from by omega, List.getD_cons_succ, app_getD _ _ _ (List.length_map ..).symm]) (x.bs.length + k) (by unfold szG at hk; omega)
    rw [Nat.add_assoc, hq, List.getD_eq_getElem?_getD, List.getElem?_eq_none (by omega)]
    rfl
theorem at_root (pl : List Nat) : ∀ (rs : List Rv) (pre post : List (BitVec 64)), (∀ r ∈ rs, r.s.size ≤ 32) → ∀ i (hi : i < rs.length) j, j < 5 → (pre ++ rs.flatMap (rootW pl) ++ post).getD (pre.length + 5 * i + j) 0#64 = (rootW pl rs[i]).getD j 0#64
  | [], _, _, _, i, hi, _, _ => absurd hi (Nat.not_lt_zero _)
  | r :: rs, pre, post, h, 0, hi, j, hj => by
    have hl := rootW_len pl (h r (List.mem_cons_self ..))
    rw [List.flatMap_cons, List.append_assoc, List.append_assoc, show pre.length + 5 * 0 + j = pre.length + j from by omega, app_getD _ _ _ rfl, app_getL _ _ _ (by omega)]
    rfl
  | r :: rs, pre, post, h, i + 1, hi, j, hj => by
    have hl := rootW_len pl (h r (List.mem_cons_self ..))
    have ih := at_root pl rs (pre ++ rootW pl r) post (fun y hy => h y (List.mem_cons_of_mem _ hy)) i (by rw [List.length_cons] at hi; omega) j hj
    rw [List.length_append, hl] at ih
    rw [List.flatMap_cons, ← List.append_assoc pre, show pre.length + 5 * (i + 1) + j = pre.length + 5 + 5 * i + j from by omega, ih]
    rfl
/-- What an image of a graph has: its front, its Roots, its objects. -/
theorem enc_found {ns : List Nv} {rs : List Rv} (hx : ∀ x ∈ ns, (∀ p ∈ x.ps, okP ns.length p = true) ∧ x.ps.length ≤ 64 ∧ x.bs.length ≤ 1024) (hr : ∀ r ∈ rs, goodS r.s = true ∧ okP ns.length r.t = true) (ht : endL ns (2 + 5 * rs.length) ≤ 8192) :
    foundN (encW ns rs) (encW ns rs).length ((encW ns rs).length + 1) (2 + 5 * rs.length) = (placeL ns (2 + 5 * rs.length), none) ∧
    allE (encW ns rs) (placeL ns (2 + 5 * rs.length)) (placeL ns (2 + 5 * rs.length)) = [] := by
  have h32 : ∀ r ∈ rs, r.s.size ≤ 32 := fun r hh => (goodS_size (hr r hh).1).2
  have hlen := encW_len ns rs h32
  have hpre : (frontW rs.length (endL ns (2 + 5 * rs.length)) ++ rs.flatMap (rootW (placeL ns (2 + 5 * rs.length)))).length = 2 + 5 * rs.length := by
    rw [List.length_append, roots_len _ rs h32]
    rfl
  refine ⟨?_, ?_⟩
  · unfold encW at hlen ⊢
    exact found_enc _ ns _ _ _ _ (fun x h => (hx x h).2) hpre hlen (by omega)
  · rw [allE_nil, List.all_eq_true]
    intro y hy
    obtain ⟨x, hm, hw⟩ := at_node (placeL ns (2 + 5 * rs.length)) ns _ _ hpre y hy
    obtain ⟨x1, x2, x3⟩ := hx x hm
    exact well_enc x2 x3 (fun p hp => by rw [placeL_len]; exact x1 p hp) (fun z hz => by have := placeL_lt ns _ z hz; omega) hw
theorem bytesM_at (ws : List (BitVec 64)) (a n j : Nat) (h : j < (bytesM ws a n).length) : (bytesM ws a n)[j] = byteAt ws (a + j) := by simp [bytesM]
theorem enc_root {ns : List Nv} {rs : List Rv} (hr : ∀ r ∈ rs, goodS r.s = true ∧ okP ns.length r.t = true) (ht : endL ns (2 + 5 * rs.length) ≤ 8192) (i : Nat) (hi : i < rs.length) :
    bytesM (encW ns rs) (8 * (2 + 5 * i)) 32 = nameW rs[i].s ∧ (((encW ns rs).getD (2 + 5 * i + 4) 0#64).toNat = 0 ∨ (1 ≤ ((encW ns rs).getD (2 + 5 * i + 4) 0#64).toNat ∧ ((encW ns rs).getD (2 + 5 * i + 4) 0#64).toNat - 1 ∈ placeL ns (2 + 5 * rs.length))) := by
  have h32 : ∀ r ∈ rs, r.s.size ≤ 32 := fun r hh => (goodS_size (hr r hh).1).2
  have hm := List.getElem_mem hi
  have hl := nameW_len (h32 _ hm)
  have hww : (wordsW (nameW rs[i].s)).length = 4 := by rw [wordsW_len, hl]
  have hat : ∀ j, j < 5 → (encW ns rs).getD (2 + 5 * i + j) 0#64 = (rootW (placeL ns (2 + 5 * rs.length)) rs[i]).getD j 0#64 := fun j hj => at_root _ rs (frontW rs.length (endL ns (2 + 5 * rs.length))) _ h32 i hi j hj
  constructor
  · apply List.ext_getElem
    · rw [hl]; unfold bytesM; simp
    · intro j h1 h2
      have hj : j < 32 := by rw [hl] at h2; exact h2
      rw [bytesM_at, byte_words (ws := encW ns rs) (a := 2 + 5 * i) (bs := nameW rs[i].s) (fun k hk => by
        rw [hl] at hk
        rw [hat k (by omega)]
        unfold rootW
        rw [app_getL _ _ _ (by omega)]) j (by rw [hl]; omega), List.getD_eq_getElem?_getD, List.getElem?_eq_getElem h2]
      rfl
  · have e : (encW ns rs).getD (2 + 5 * i + 4) 0#64 = pointW (placeL ns (2 + 5 * rs.length)) rs[i].t := by
      rw [hat 4 (by omega)]
      unfold rootW
      have h := app_getD (wordsW (nameW rs[i].s)) [pointW (placeL ns (2 + 5 * rs.length)) rs[i].t] 0#64 (i := 0) hww.symm
      exact h
    rw [e]
    exact pointW_in (by rw [placeL_len]; exact (hr _ hm).2) (fun z hz => by have := placeL_lt ns _ z hz; omega)
end Go.Proofs.Ytkkjnahjmomjgaa
/- A graph back from its words (pure). Conditions: a graph that Check lets. -/
namespace Go.Proofs.Ytkkjnahjmomjgaa
set_option linter.unusedVariables false
set_option linter.unusedSimpArgs false
open Go.RowKit Go.Maps
set_option maxHeartbeats 1000000
def numsL : List Nat → Nat → List (Int × Int)
  | [], _ => []
  | a :: r, i => ((a : Int), ((i + 1 : Nat) : Int)) :: numsL r (i + 1)
/-- The numbers of places; none's is 0. -/
def numM (l : List Nat) : List (Int × Int) := (-1, 0) :: numsL l 0
def numV (l : List Nat) (z : Int) : Int := (lookI (numM l) z).getD 0
theorem numsL_len : ∀ (l : List Nat) (i : Nat), (numsL l i).length = l.length
  | [], _ => rfl
  | a :: r, i => by unfold numsL; rw [List.length_cons, numsL_len r, List.length_cons]
theorem numsL_snoc (a : Nat) : ∀ (l : List Nat) (i : Nat), numsL (l ++ [a]) i = numsL l i ++ [((a : Int), ((i + l.length + 1 : Nat) : Int))]
  | [], i => rfl
  | b :: r, i => by
    rw [List.cons_append]
    unfold numsL
    rw [numsL_snoc a r (i + 1), List.length_cons, List.cons_append, show i + 1 + r.length + 1 = i + (r.length + 1) + 1 from by omega]
theorem numsL_mem : ∀ (l : List Nat) (i : Nat), ∀ p ∈ numsL l i, ∃ a ∈ l, p.1 = (a : Int)
  | [], _, p, h => by cases h
  | a :: r, i, p, h => by
    unfold numsL at h
    rcases List.mem_cons.1 h with rfl | h
    · exact ⟨a, List.mem_cons_self .., rfl⟩
    · obtain ⟨b, hb, e⟩ := numsL_mem r _ p h
      exact ⟨b, List.mem_cons_of_mem _ hb, e⟩
theorem numM_step (l : List Nat) (a : Nat) (h : ∀ y ∈ l, y < a) : putI (numM l) (a : Int) ((l.length + 1 : Nat) : Int) = numM (l ++ [a]) := by
  rw [put_end]
  · unfold numM
    rw [numsL_snoc, Nat.zero_add]
    rfl
  · intro p hp
    unfold numM at hp
    rcases List.mem_cons.1 hp with rfl | hp
    · show (-1 : Int) < (a : Int); omega
    · obtain ⟨y, hy, e⟩ := numsL_mem _ _ p hp
      have := h y hy
      rw [e]; omega
theorem look_nums : ∀ (l : List Nat) (j i : Nat) (h : i < l.length), l.Pairwise (· < ·) → lookI (numsL l j) ((l[i] : Nat) : Int) = some ((j + i + 1 : Nat) : Int)
  | [], _, _, h, _ => absurd h (Nat.not_lt_zero _)
  | a :: r, j, 0, h, _ => by
    unfold numsL lookI
    exact if_pos rfl
  | a :: r, j, i + 1, h, hp => by
    obtain ⟨h1, h2⟩ := List.pairwise_cons.1 hp
    have hi : i < r.length := by rw [List.length_cons] at h; omega
    have hlt := h1 _ (List.getElem_mem hi)
    unfold numsL lookI
    rw [if_neg (by show ¬ (a : Int) = (((a :: r)[i + 1] : Nat) : Int); rw [List.getElem_cons_succ]; omega), List.getElem_cons_succ, look_nums r (j + 1) i hi h2, show j + 1 + i + 1 = j + (i + 1) + 1 from by omega]
theorem numV_at {l : List Nat} (hp : l.Pairwise (· < ·)) {i : Nat} (h : i < l.length) : numV l ((l[i] : Nat) : Int) = ((i + 1 : Nat) : Int) := by
  unfold numV numM lookI
  rw [if_neg (by show ¬ (-1 : Int) = _; omega), look_nums l 0 i h hp, Nat.zero_add]
  rfl
theorem numV_no (l : List Nat) : numV l (-1) = 0 := by
  unfold numV numM lookI
  rw [if_pos rfl]
  rfl
theorem placeL_rise : ∀ (l : List Nv) (a : Nat), (placeL l a).Pairwise (· < ·)
  | [], _ => List.Pairwise.nil
  | x :: r, a => by
    unfold placeL
    refine List.pairwise_cons.2 ⟨fun y hy => ?_, placeL_rise r _⟩
    have := placeL_lt r _ y hy
    have h2 : 1 ≤ szG x := by unfold szG; omega
    omega
def normN (x : Nv) : Nv := ⟨none, 0, none, 0, x.ps, x.bs⟩
def normG (g : Gv) : Gv := ⟨none, 0, none, 0, g.n.map normN, g.r⟩
/-- The node at a place. -/
def dNode (ws : List (BitVec 64)) (l : List Nat) (a : Nat) : Nv :=
  ⟨none, 0, none, 0, (List.range (P0 (ws.getD a 0#64))).map (fun k => numV l (((ws.getD (a + 1 + k) 0#64).toNat : Int) - 1)), bytesM ws (8 * (a + 1 + P0 (ws.getD a 0#64)) + 0) (B0 (ws.getD a 0#64))⟩
def rtI (x : BitVec 64) : Int := IntKind.i64.wrap (IntKind.i64.wrap (U64 x) - 1)
def dRoot (ws : List (BitVec 64)) (l : List Nat) (i : Nat) : Rv := ⟨strB (cutN (bytesM ws (8 * (2 + 5 * i)) 32)), numV l (rtI (ws.getD (2 + 5 * i + 4) 0#64))⟩
theorem num_point {pl : List Nat} (hr : pl.Pairwise (· < ·)) {p : Int} (h : okP pl.length p = true) (hb : ∀ y ∈ pl, y < 8192) : numV pl (((pointW pl p).toNat : Int) - 1) = p ∧ (pointW pl p).toNat ≤ 8192 := by
  unfold pointW
  by_cases h0 : p = 0
  · rw [if_pos h0, h0]
    exact ⟨numV_no pl, by decide⟩
  · rw [if_neg h0]
    have hh : 1 ≤ p ∧ p ≤ (pl.length : Int) := by
      unfold okP hasG at h
      simpa [h0] using h
    have hl : p.toNat - 1 < pl.length := by omega
    have e0 : pl.getD (p.toNat - 1) 0 = pl[p.toNat - 1] := by rw [List.getD_eq_getElem?_getD, List.getElem?_eq_getElem hl]; rfl
    have hlt := hb _ (List.getElem_mem hl)
    have e : (BitVec.ofNat 64 (pl[p.toNat - 1] + 1)).toNat = pl[p.toNat - 1] + 1 := by
      rw [BitVec.toNat_ofNat]
      exact Nat.mod_eq_of_lt (by omega)
    rw [e0, e]
    refine ⟨?_, by omega⟩
    rw [show (((pl[p.toNat - 1] + 1 : Nat) : Int) - 1) = ((pl[p.toNat - 1] : Nat) : Int) from by omega, numV_at hr hl]
    omega
theorem dNode_enc {pl : List Nat} {ws : List (BitVec 64)} {x : Nv} {y : Nat} (hr : pl.Pairwise (· < ·)) (h1 : x.ps.length ≤ 64) (h2 : x.bs.length ≤ 1024) (hp : ∀ p ∈ x.ps, okP pl.length p = true) (hb : ∀ y ∈ pl, y < 8192) (hw : ∀ i, i < szG x → ws.getD (y + i) 0#64 = (nodeW pl x).getD i 0#64) : dNode ws pl y = normN x := by
  obtain ⟨g1, g2, g3, g4⟩ := headW_ok h1 h2
  have hd : ws.getD y 0#64 = headW x := (hw 0 (by unfold szG; omega)).trans rfl
  have e1 : (List.range (P0 (ws.getD y 0#64))).map (fun k => numV pl (((ws.getD (y + 1 + k) 0#64).toNat : Int) - 1)) = x.ps := by
    rw [hd, g3]
    apply List.ext_getElem
    · rw [List.length_map, List.length_range]
    · intro k h3 h4
      rw [List.getElem_map, List.getElem_range]
      have e : ws.getD (y + 1 + k) 0#64 = pointW pl x.ps[k] := by
        rw [Nat.add_assoc, hw (1 + k) (by unfold szG; omega), Nat.add_comm 1 k]
        unfold nodeW
        rw [List.getD_cons_succ, app_getL _ _ _ (by rw [List.length_map]; exact h4), map_getD' _ _ _ h4]
      rw [e]
      exact (num_point hr (hp _ (List.getElem_mem h4)) hb).1
  have e2 : bytesM ws (8 * (y + 1 + P0 (ws.getD y 0#64)) + 0) (B0 (ws.getD y 0#64)) = x.bs := by
    rw [hd, g3, g4, Nat.add_zero]
    apply List.ext_getElem
    · unfold bytesM; simp
    · intro j h3 h4
      have hq := byte_words (ws := ws) (a := y + 1 + x.ps.length) (bs := x.bs) (fun i hi => by
        rw [Nat.add_assoc y 1, Nat.add_assoc, hw _ (by unfold szG; omega)]
        unfold nodeW
        rw [show 1 + x.ps.length + i = (x.ps.length + i) + 1 from by omega, List.getD_cons_succ, app_getD _ _ _ (List.length_map ..).symm]) j (by omega)
      rw [bytesM_at, hq, List.getD_eq_getElem?_getD, List.getElem?_eq_getElem h4]
      rfl
  unfold dNode normN
  rw [e1, e2]
theorem nodes_dec {pl : List Nat} (hr : pl.Pairwise (· < ·)) (hb : ∀ y ∈ pl, y < 8192) : ∀ (l : List Nv) (pre : List (BitVec 64)) (a : Nat), (∀ x ∈ l, (∀ p ∈ x.ps, okP pl.length p = true) ∧ x.ps.length ≤ 64 ∧ x.bs.length ≤ 1024) → pre.length = a → (placeL l a).map (dNode (pre ++ l.flatMap (nodeW pl)) pl) = l.map normN
  | [], _, _, _, _ => rfl
  | x :: r, pre, a, hx, hp => by
    obtain ⟨x1, x2, x3⟩ := hx x (List.mem_cons_self ..)
    have ih := nodes_dec hr hb r (pre ++ nodeW pl x) (a + szG x) (fun y hy => hx y (List.mem_cons_of_mem _ hy)) (by rw [List.length_append, nodeW_len, hp])
    have e : pre ++ (x :: r).flatMap (nodeW pl) = pre ++ nodeW pl x ++ r.flatMap (nodeW pl) := by rw [List.flatMap_cons, List.append_assoc]
    unfold placeL
    rw [List.map_cons, List.map_cons, e, ih]
    congr 1
    refine dNode_enc hr x2 x3 x1 hb fun i hi => ?_
    rw [List.append_assoc, app_getD _ _ _ hp.symm, app_getL _ _ _ (by rw [nodeW_len]; exact hi)]
theorem enc_to {ns : List Nv} {rs : List Rv} (hr : ∀ r ∈ rs, goodS r.s = true ∧ okP ns.length r.t = true) (i : Nat) (hi : i < rs.length) : (encW ns rs).getD (2 + 5 * i + 4) 0#64 = pointW (placeL ns (2 + 5 * rs.length)) rs[i].t := by
  have h32 : ∀ r ∈ rs, r.s.size ≤ 32 := fun r hh => (goodS_size (hr r hh).1).2
  have hl := nameW_len (h32 _ (List.getElem_mem hi))
  have hww : (wordsW (nameW rs[i].s)).length = 4 := by rw [wordsW_len, hl]
  have hat : (encW ns rs).getD (2 + 5 * i + 4) 0#64 = (rootW (placeL ns (2 + 5 * rs.length)) rs[i]).getD 4 0#64 := at_root _ rs (frontW rs.length (endL ns (2 + 5 * rs.length))) _ h32 i hi 4 (by decide)
  rw [hat]
  unfold rootW
  exact app_getD (wordsW (nameW rs[i].s)) [pointW (placeL ns (2 + 5 * rs.length)) rs[i].t] 0#64 (i := 0) hww.symm
theorem rtI_small {x : BitVec 64} (h : x.toNat ≤ 8192) : rtI x = (x.toNat : Int) - 1 := by
  unfold rtI U64
  have w1 : IntKind.i64.wrap (x.toNat : Int) = (x.toNat : Int) := by simp [IntKind.wrap, IntKind.signed, IntKind.bits]; omega
  rw [w1]
  simp [IntKind.wrap, IntKind.signed, IntKind.bits]
  omega
/-- All that is in a graph's words. -/
theorem dec_enc {g : Gv} (h : ckG g = 0) (ht : endL g.n (2 + 5 * g.r.length) ≤ 8192) :
    (placeL g.n (2 + 5 * g.r.length)).map (dNode (encW g.n g.r) (placeL g.n (2 + 5 * g.r.length))) = g.n.map normN ∧ (List.range g.r.length).map (dRoot (encW g.n g.r) (placeL g.n (2 + 5 * g.r.length))) = g.r := by
  obtain ⟨h1, h2, h3⟩ := ckG_ok h
  have hr := placeL_rise g.n (2 + 5 * g.r.length)
  have hb : ∀ y ∈ placeL g.n (2 + 5 * g.r.length), y < 8192 := fun y hy => by have := placeL_lt g.n _ y hy; omega
  have h32 : ∀ r ∈ g.r, r.s.size ≤ 32 := fun r hh => (goodS_size (h3 r hh).1).2
  have hpl := placeL_len g.n (2 + 5 * g.r.length)
  have hpre : (frontW g.r.length (endL g.n (2 + 5 * g.r.length)) ++ g.r.flatMap (rootW (placeL g.n (2 + 5 * g.r.length)))).length = 2 + 5 * g.r.length := by
    rw [List.length_append, roots_len _ _ h32]
    rfl
  constructor
  · exact nodes_dec hr hb g.n _ _ (fun x hx => by rw [hpl]; exact h1 x hx) hpre
  · apply List.ext_getElem
    · rw [List.length_map, List.length_range]
    · intro i h4 h5
      rw [List.getElem_map, List.getElem_range]
      obtain ⟨e1, _⟩ := enc_root h3 ht i h5
      have e2 := enc_to h3 i h5
      obtain ⟨k1, k2⟩ := h3 _ (List.getElem_mem h5)
      obtain ⟨n1, n2⟩ := num_point hr (p := g.r[i].t) (by rw [hpl]; exact k2) hb
      unfold dRoot
      rw [e1, e2, rtI_small n2, n1, nameW_pad, good_cut (good_bits k1), strB_bits]
theorem ckNodes_norm (N : Nat) : ∀ l : List Nv, ckNodes N (l.map normN) = ckNodes N l
  | [] => rfl
  | x :: l => by
    rw [List.map_cons]
    unfold ckNodes
    rw [ckNodes_norm N l]
    rfl
theorem ckG_norm (g : Gv) : ckG (normG g) = ckG g := by
  unfold ckG normG
  simp only [List.length_map, ckNodes_norm]
theorem endL_norm : ∀ (l : List Nv) (a : Nat), endL (l.map normN) a = endL l a
  | [], _ => rfl
  | x :: l, a => endL_norm l (a + szG x)
theorem placeL_norm : ∀ (l : List Nv) (a : Nat), placeL (l.map normN) a = placeL l a
  | [], _ => rfl
  | x :: l, a => by
    rw [List.map_cons]
    unfold placeL
    rw [placeL_norm l (a + szG (normN x))]
    rfl
theorem nodes_norm (pl : List Nat) : ∀ l : List Nv, (l.map normN).flatMap (nodeW pl) = l.flatMap (nodeW pl)
  | [] => rfl
  | x :: l => by
    rw [List.map_cons, List.flatMap_cons, List.flatMap_cons, nodes_norm pl l]
    rfl
theorem enc_norm (ns : List Nv) (rs : List Rv) : encW (ns.map normN) rs = encW ns rs := by
  unfold encW
  rw [endL_norm, placeL_norm, nodes_norm]
/-- Graphs of the same contents have the same words. -/
theorem enc_same {g g' : Gv} (h : g.n.map normN = g'.n.map normN) (hr : g.r = g'.r) : encW g.n g.r = encW g'.n g'.r ∧ ckG g = ckG g' ∧ endL g.n (2 + 5 * g.r.length) = endL g'.n (2 + 5 * g'.r.length) := by
  refine ⟨?_, ?_, ?_⟩
  · rw [← enc_norm g.n, ← enc_norm g'.n, h, hr]
  · rw [← ckG_norm g, ← ckG_norm g']
    unfold normG
    rw [h, hr]
  · rw [← endL_norm g.n, ← endL_norm g'.n, h, hr]
/-- Graphs that Check lets have the same words just if they have the same contents. -/
theorem enc_inj {g g' : Gv} (h : ckG g = 0) (ht : endL g.n (2 + 5 * g.r.length) ≤ 8192) (h' : ckG g' = 0) (ht' : endL g'.n (2 + 5 * g'.r.length) ≤ 8192) (e : encW g.n g.r = encW g'.n g'.r) : g.n.map normN = g'.n.map normN ∧ g.r = g'.r := by
  obtain ⟨_, r2, r3⟩ := ckG_ok h
  obtain ⟨_, r2', r3'⟩ := ckG_ok h'
  have hl := encW_len g.n g.r (fun r hh => (goodS_size (r3 r hh).1).2)
  have hl' := encW_len g'.n g'.r (fun r hh => (goodS_size (r3' r hh).1).2)
  have e1 : (encW g.n g.r).getD 1 0#64 = BitVec.ofNat 64 (g.r.length + endL g.n (2 + 5 * g.r.length) * 65536) := rfl
  have e1' : (encW g'.n g'.r).getD 1 0#64 = BitVec.ofNat 64 (g'.r.length + endL g'.n (2 + 5 * g'.r.length) * 65536) := rfl
  have hR : g.r.length = g'.r.length := by
    rw [e, e1'] at e1
    have h1 := congrArg BitVec.toNat e1
    rw [BitVec.toNat_ofNat, BitVec.toNat_ofNat, Nat.mod_eq_of_lt (by omega), Nat.mod_eq_of_lt (by omega)] at h1
    omega
  have hf := (enc_found (ckG_ok h).1 r3 ht).1
  have hf' := (enc_found (ckG_ok h').1 r3' ht').1
  rw [e, hR, hf'] at hf
  have hpl : placeL g.n (2 + 5 * g'.r.length) = placeL g'.n (2 + 5 * g'.r.length) := ((Prod.mk.inj hf).1).symm
  obtain ⟨d1, d2⟩ := dec_enc h ht
  obtain ⟨d1', d2'⟩ := dec_enc h' ht'
  rw [hR, e, hpl, d1'] at d1
  rw [hR, e, hpl, d2'] at d2
  exact ⟨d1.symm, d2.symm⟩
end Go.Proofs.Ytkkjnahjmomjgaa
/- How image.Encode lays a graph's words, as lists (pure). No conditions. -/
namespace Go.Proofs.Ytkkjnahjmomjgaa
set_option linter.unusedVariables false
set_option linter.unusedSimpArgs false
open Go.RowKit
set_option maxHeartbeats 1000000
theorem setMid {α : Type} : ∀ (A : List α) (x y : α) (B : List α), (A ++ x :: B).set A.length y = A ++ y :: B
  | [], _, _, _ => rfl
  | a :: A, x, y, B => by
    rw [List.cons_append, List.length_cons, List.set_cons_succ, setMid A x y B]
    rfl
theorem byte_app (A B : List (BitVec 64)) (j : Nat) : byteAt (A ++ B) j = if j < 8 * A.length then byteAt A j else byteAt B (j - 8 * A.length) := by
  unfold byteAt
  by_cases h : j < 8 * A.length
  · rw [if_pos h, app_getL _ _ _ (by omega)]
  · have e := app_getD A B 0#64 (i := (j - 8 * A.length) / 8) rfl
    rw [show A.length + (j - 8 * A.length) / 8 = j / 8 from by omega] at e
    rw [if_neg h, e, show (j - 8 * A.length) % 8 = j % 8 from by omega]
theorem byte_zero (m j : Nat) : byteAt (List.replicate m 0#64) j = 0#8 := by
  have e : (List.replicate m 0#64).getD (j / 8) 0#64 = 0#64 := by
    rw [List.getD_eq_getElem?_getD, List.getElem?_replicate]
    split <;> rfl
  unfold byteAt
  rw [e]
  simp
theorem words_ext {X Y : List (BitVec 64)} (hl : X.length = Y.length) (h : ∀ j, j < 8 * X.length → byteAt X j = byteAt Y j) : X = Y := by
  apply List.ext_getElem hl
  intro q h1 h2
  apply BitVec.eq_of_getLsbD_eq
  intro i hi
  have e := h (8 * q + i / 8) (by omega)
  have eX : X.getD q 0#64 = X[q] := by rw [List.getD_eq_getElem?_getD, List.getElem?_eq_getElem h1]; rfl
  have eY : Y.getD q 0#64 = Y[q] := by rw [List.getD_eq_getElem?_getD, List.getElem?_eq_getElem h2]; rfl
  have b1 := byteAt_bit X (8 * q + i / 8) (i % 8) (by omega)
  have b2 := byteAt_bit Y (8 * q + i / 8) (i % 8) (by omega)
  rw [show (8 * q + i / 8) / 8 = q from by omega, show 8 * ((8 * q + i / 8) % 8) + i % 8 = i from by omega] at b1 b2
  rw [eX] at b1
  rw [eY] at b2
  rw [← b1, ← b2, e]
/-- Bytes laid over words that are 0. -/
theorem putK_mid (A C : List (BitVec 64)) (bs : List (BitVec 8)) (m a : Nat) (hm : m = (bs.length + 7) / 8) (ha : a = 8 * A.length) : putK (A ++ List.replicate m 0#64 ++ C) a bs bs.length = A ++ wordsW bs ++ C := by
  have hlw : (wordsW bs).length = m := by rw [wordsW_len, hm]
  have hlX : (A ++ List.replicate m 0#64 ++ C).length = A.length + m + C.length := by rw [List.length_append, List.length_append, List.length_replicate]
  apply words_ext
  · rw [putK_len, List.length_append, List.length_append, List.length_replicate, List.length_append, List.length_append, hlw]
  · intro j hj
    rw [putK_len, hlX] at hj
    rw [byteAt_putK _ _ _ _ _ (by rw [hlX]; omega), byte_app, byte_app, byte_app (A ++ wordsW bs), byte_app A (wordsW bs)]
    simp only [List.length_append, List.length_replicate, hlw]
    by_cases h1 : j < 8 * A.length
    · have h1' : j < 8 * (A.length + m) := by omega
      rw [if_neg (by omega)]
      simp only [h1, h1', if_true]
    · by_cases h2 : j < 8 * (A.length + m)
      · have e := byte_words (ws := wordsW bs) (a := 0) (bs := bs) (fun i _ => by rw [Nat.zero_add]) (j - 8 * A.length) (by omega)
        rw [Nat.mul_zero, Nat.zero_add] at e
        simp only [h1, h2, if_true, if_false]
        rw [e, byte_zero]
        by_cases h3 : j < a + bs.length
        · rw [if_pos ⟨by omega, h3⟩, ha]
        · rw [if_neg (by omega), List.getD_eq_getElem?_getD, List.getElem?_eq_none (by omega)]
          rfl
      · rw [if_neg (by omega)]
        simp only [h2, if_false]
/-- An object more in words that are 0. -/
theorem alloc_mid (A : List (BitVec 64)) (m n t : Nat) (h : BitVec 64) (h1 : 1 ≤ n) (hn : n ≤ m) (ht : t = A.length) : allocW (A ++ List.replicate m 0#64) t n h = A ++ (h :: List.replicate (n - 1) 0#64) ++ List.replicate (m - n) 0#64 := by
  subst ht
  have hlen : ((A ++ List.replicate m 0#64).set A.length h).length = A.length + m := by rw [List.length_set, List.length_append, List.length_replicate]
  obtain ⟨k, rfl⟩ : ∃ k, m = k + 1 := ⟨m - 1, by omega⟩
  unfold allocW
  rw [List.replicate_succ, setMid]
  apply List.ext_getElem?
  intro i
  rw [zeroW_get _ _ _ _ (by rw [List.length_append, List.length_cons, List.length_replicate]; omega)]
  have e2 : A ++ h :: List.replicate (n - 1) 0#64 ++ List.replicate (k + 1 - n) 0#64 = A ++ h :: List.replicate k 0#64 := by
    rw [List.append_assoc, List.cons_append, List.replicate_append_replicate, show n - 1 + (k + 1 - n) = k from by omega]
  rw [e2]
  by_cases hi : A.length + 1 ≤ i ∧ i < A.length + 1 + (n - 1)
  · rw [if_pos hi, List.getElem?_append_right (by omega)]
    obtain ⟨j, hj⟩ : ∃ j, i - A.length = j + 1 := ⟨i - A.length - 1, by omega⟩
    rw [hj, List.getElem?_cons_succ, List.getElem?_replicate, if_pos (by omega)]
  · rw [if_neg hi]
def blankW (x : Nv) : List (BitVec 64) := headW x :: List.replicate (szG x - 1) 0#64
theorem blankW_len (x : Nv) : (blankW x).length = szG x := by
  unfold blankW szG
  rw [List.length_cons, List.length_replicate]
  omega
theorem blanks_len : ∀ (ns : List Nv) (a : Nat), a + (ns.flatMap blankW).length = endL ns a
  | [], _ => rfl
  | x :: ns, a => by
    rw [List.flatMap_cons, List.length_append, blankW_len, ← Nat.add_assoc, blanks_len ns (a + szG x)]
    rfl
theorem nodesW_len (pl : List Nat) : ∀ (ns : List Nv) (a : Nat), a + (ns.flatMap (nodeW pl)).length = endL ns a
  | [], _ => rfl
  | x :: ns, a => by
    rw [List.flatMap_cons, List.length_append, nodeW_len, ← Nat.add_assoc, nodesW_len pl ns (a + szG x)]
    rfl
/-- A node whose first k pointers are set. -/
def halfW (pl : List Nat) (x : Nv) (k : Nat) : List (BitVec 64) := headW x :: ((x.ps.take k).map (pointW pl) ++ List.replicate (x.ps.length - k) 0#64 ++ List.replicate ((x.bs.length + 7) / 8) 0#64)
theorem half_zero (pl : List Nat) (x : Nv) : halfW pl x 0 = blankW x := by
  unfold halfW blankW szG
  rw [List.take_zero, List.map_nil, List.nil_append, List.replicate_append_replicate]
  congr 2
  omega
theorem half_len (pl : List Nat) (x : Nv) (k : Nat) (hk : k ≤ x.ps.length) : (halfW pl x k).length = szG x := by
  unfold halfW szG
  simp
  omega
theorem half_step (pl : List Nat) (x : Nv) (k : Nat) (hk : k < x.ps.length) (A C : List (BitVec 64)) : (A ++ halfW pl x k ++ C).set (A.length + 1 + k) (pointW pl x.ps[k]) = A ++ halfW pl x (k + 1) ++ C := by
  obtain ⟨m, hm⟩ : ∃ m, x.ps.length - k = m + 1 := ⟨x.ps.length - k - 1, by omega⟩
  have hm2 : x.ps.length - (k + 1) = m := by omega
  unfold halfW
  rw [hm, hm2, List.replicate_succ]
  have e1 : A ++ (headW x :: ((x.ps.take k).map (pointW pl) ++ (0#64 :: List.replicate m 0#64) ++ List.replicate ((x.bs.length + 7) / 8) 0#64)) ++ C = (A ++ headW x :: (x.ps.take k).map (pointW pl)) ++ 0#64 :: (List.replicate m 0#64 ++ List.replicate ((x.bs.length + 7) / 8) 0#64 ++ C) := by simp
  have e2 : A.length + 1 + k = (A ++ headW x :: (x.ps.take k).map (pointW pl)).length := by
    simp only [List.length_append, List.length_cons, List.length_map, List.length_take]
    omega
  rw [e1, e2, setMid, List.take_succ_eq_append_getElem hk, List.map_append]
  simp
theorem half_data (pl : List Nat) (x : Nv) (a : Nat) (A C : List (BitVec 64)) (ha : a = 8 * (A.length + 1 + x.ps.length)) : putK (A ++ halfW pl x x.ps.length ++ C) a x.bs x.bs.length = A ++ nodeW pl x ++ C := by
  unfold halfW nodeW
  rw [Nat.sub_self, List.take_length]
  have e1 : A ++ (headW x :: (x.ps.map (pointW pl) ++ List.replicate 0 0#64 ++ List.replicate ((x.bs.length + 7) / 8) 0#64)) ++ C = (A ++ headW x :: x.ps.map (pointW pl)) ++ List.replicate ((x.bs.length + 7) / 8) 0#64 ++ C := by simp
  rw [e1, putK_mid _ _ _ _ _ rfl (by rw [ha]; simp; omega)]
  simp
/-- The Roots that are set, those that are not, the objects. -/
def rootsW (pl : List Nat) (F : List (BitVec 64)) (rs : List Rv) (j R : Nat) (C : List (BitVec 64)) : List (BitVec 64) := F ++ (rs.take j).flatMap (rootW pl) ++ List.replicate (5 * (R - j)) 0#64 ++ C
theorem root_step (pl : List Nat) (F C : List (BitVec 64)) (rs : List Rv) (j a : Nat) (hj : j < rs.length) (h32 : ∀ r ∈ rs, r.s.size ≤ 32) (hF : F.length = 2) (ha : a = 2 + 5 * j) :
    (putK (rootsW pl F rs j rs.length C) (8 * a) (nameW rs[j].s) (nameW rs[j].s).length).set (a + 4) (pointW pl rs[j].t) = rootsW pl F rs (j + 1) rs.length C := by
  obtain ⟨m, hm⟩ : ∃ m, rs.length - j = m + 1 := ⟨rs.length - j - 1, by omega⟩
  have hm2 : rs.length - (j + 1) = m := by omega
  have hl := nameW_len (h32 _ (List.getElem_mem hj))
  have hA : (F ++ (rs.take j).flatMap (rootW pl)).length = a := by
    rw [List.length_append, roots_len _ _ (fun r hr => h32 r (List.mem_of_mem_take hr)), List.length_take, hF, ha]
    omega
  unfold rootsW
  rw [hm, hm2, show 5 * (m + 1) = 4 + (1 + 5 * m) from by omega, ← List.replicate_append_replicate (n := 4), ← List.replicate_append_replicate (n := 1), ← List.append_assoc _ (List.replicate 4 0#64), List.append_assoc (_ ++ List.replicate 4 0#64)]
  rw [putK_mid _ _ _ _ _ (by rw [hl]) (by rw [hA])]
  have hW : (wordsW (nameW rs[j].s)).length = 4 := by rw [wordsW_len, hl]
  have e2 : a + 4 = (F ++ (rs.take j).flatMap (rootW pl) ++ wordsW (nameW rs[j].s)).length := by rw [List.length_append, hA, hW]
  rw [e2, show List.replicate 1 0#64 ++ List.replicate (5 * m) 0#64 ++ C = 0#64 :: (List.replicate (5 * m) 0#64 ++ C) from rfl, setMid, List.take_succ_eq_append_getElem hj, List.flatMap_append]
  unfold rootW
  simp
end Go.Proofs.Ytkkjnahjmomjgaa
/- image.putNodes. Conditions: a graph that Check lets, room for it. -/
namespace Go.Proofs.Ytkkjnahjmomjgaa
set_option linter.unusedVariables false
set_option linter.unusedSimpArgs false
open Go.RowKit Go.Maps
set_option maxHeartbeats 4000000
set_option maxRecDepth 100000
theorem im_memkept {S : Nat → Prop} {W W' : World} {B g : Nat} {v : Value} {ws : List (BitVec 64)} (h : Kept S W W') (m : MemAt W B g v ws) (hg : ¬ S g) (hv : ∀ k, v.ownBlock = some k → ¬ S k) : MemAt W' B g v ws := ⟨h.bk m.blk hg, m.ge, h.ow m.row hv, m.ne⟩
theorem im_spkept {S : Nat → Prop} {W W' : World} {B s g : Nat} {v : Value} {ws : List (BitVec 64)} {b t e : Nat} (h : Kept S W W') (p : SpAt W B s g v ws b t e) (hs : ¬ S s) (hg : ¬ S g) (hv : ∀ k, v.ownBlock = some k → ¬ S k) : SpAt W' B s g v ws b t e := ⟨im_memkept h p.mem hg hv, h.bk p.blk hs, p.sg, p.sv, p.hs, p.bt, p.te, p.el⟩
theorem im_twokept {w w' : World} {s : Nat} {row : Option Nat} (h : Two w w' s row) : Kept (fun k => k = s ∨ some k = row) w w' :=
  ⟨h.os, h.tape, h.output, h.size, fun k hk hn => h.block k hk (fun e => hn (.inl e)) (fun e => hn (.inr e))⟩
/-- The places of nodes; 0 has none's. -/
def plI (ns : List Nv) (b : Nat) : List Int := (-1) :: (placeL ns b).map (fun a : Nat => (a : Int))
theorem plI_snoc (x : Nv) (l : List Nv) (b : Nat) : plI (l ++ [x]) b = plI l b ++ [((endL l b : Nat) : Int)] := by
  unfold plI
  rw [placeL_snoc, List.map_append]
  rfl
theorem plI_len (l : List Nv) (b : Nat) : (plI l b).length = l.length + 1 := by
  unfold plI
  rw [List.length_cons, List.length_map, placeL_len]
theorem endL_len : ∀ (l : List Nv) (a : Nat), a + l.length ≤ endL l a
  | [], _ => Nat.le_refl _
  | x :: r, a => by
    have := endL_len r (a + szG x)
    have h2 : 1 ≤ szG x := by unfold szG; omega
    show a + (r.length + 1) ≤ endL r (a + szG x)
    omega
theorem placeL_at : ∀ (l : List Nv) (a k : Nat) (h : k < l.length), (placeL l a).getD k 0 = endL (l.take k) a
  | [], _, _, h => absurd h (Nat.not_lt_zero _)
  | x :: r, a, 0, h => rfl
  | x :: r, a, k + 1, h => by
    unfold placeL
    rw [List.getD_cons_succ, placeL_at r _ k (by rw [List.length_cons] at h; omega), List.take_succ_cons]
    rfl
theorem plI_at (l : List Nv) (b k : Nat) (h : k < l.length) : (plI l b)[k + 1]? = some ((endL (l.take k) b : Nat) : Int) := by
  unfold plI
  rw [List.getElem?_cons_succ, List.getElem?_map, ← placeL_at l b k h, List.getD_eq_getElem?_getD, List.getElem?_eq_getElem (by rw [placeL_len]; exact h)]
  rfl
section
variable {W W' : World} {B s g S : Nat} {v pv : Value} {ws ws' : List (BitVec 64)} {b t t' e : Nat} {L : List Int}
/-- A space, and a row of places beside it. -/
structure PuAt (W : World) (B s g : Nat) (v : Value) (ws : List (BitVec 64)) (b t e S : Nat) (pv : Value) (L : List Int) : Prop where
  sp : SpAt W B s g v ws b t e
  row : Ow iV 3 W S pv L
  ss : s < S
  gs : g < S
  vs : ∀ k, v.ownBlock = some k → k < S
  sz : S ≤ W.heap.size
theorem PuAt.below (p : PuAt W B s g v ws b t e S pv L) (h : Below W.heap.size W W') : PuAt W' B s g v ws b t e S pv L := ⟨p.sp.below h, p.row.below h, p.ss, p.gs, p.vs, Nat.le_trans p.sz h.size⟩
theorem PuAt.two (p : PuAt W B s g v ws b t e S pv L) (q : SpAt W' B s g v ws' b t' e) (h : Two W W' s v.ownBlock) : PuAt W' B s g v ws' b t' e S pv L :=
  ⟨q, (im_twokept h).ow p.row (fun k hk hn => by
    have h1 := (p.row.lt k hk).1
    rcases hn with hn | hn
    · have := p.ss; omega
    · have := p.vs k hn.symm; omega), p.ss, p.gs, p.vs, Nat.le_trans p.sz h.size⟩
theorem PuAt.app {pv' : Value} {L' : List Int} (p : PuAt W B s g v ws b t e S pv L) (q : Ow iV 3 W' S pv' L') (h : W.grownBy W' pv.ownBlock) : PuAt W' B s g v ws b t e S pv' L' := by
  refine ⟨im_spkept (Kept.grown h) p.sp (fun hn => ?_) (fun hn => ?_) (fun k hk hn => ?_), q, p.ss, p.gs, p.vs, Nat.le_trans p.sz h.size⟩
  · have := (p.row.lt s hn).1; have := p.ss; omega
  · have := (p.row.lt g hn).1; have := p.gs; omega
  · have := (p.row.lt k hn).1; have := p.vs k hk; omega
theorem PuAt.low (p : PuAt W B s g v ws b t e S pv L) : B ≤ S := by have := p.sp.hs; have := p.ss; omega
end
theorem ow_iV1 (w : World) (z : Int) : Ow iV 3 (w.alloc (.cells #[.int .i64 z] 3)) w.heap.size (.slice (some ⟨w.heap.size, 0, none⟩) 1 1) [z] := ⟨rfl, .inr ⟨w.heap.size, 1, #[.int .i64 z], rfl, Nat.le_refl _, heap_alloc_new w _, Nat.le_refl _, by simp [maxLen], rfl, rfl⟩⟩
/-- What putNodes has laid when k objects are made. -/
def madeW (ns : List Nv) (b need k : Nat) : List (BitVec 64) := (List.replicate b 0#64 ++ (ns.take k).flatMap blankW) ++ List.replicate (need - endL (ns.take k) b) 0#64
/-- .. when k objects are filled. -/
def doneW (pl : List Nat) (ns : List Nv) (b k : Nat) : List (BitVec 64) := (List.replicate b 0#64 ++ (ns.take k).flatMap (nodeW pl)) ++ (ns.drop k).flatMap blankW
theorem made_step (ns : List Nv) (b need k : Nat) (hk : k < ns.length) (hn : need = endL ns b) : allocW (madeW ns b need k) (endL (ns.take k) b) (szG ns[k]) (headW ns[k]) = madeW ns b need (k + 1) := by
  have htk : ns.take (k + 1) = ns.take k ++ [ns[k]] := List.take_succ_eq_append_getElem hk
  have he : endL (ns.take (k + 1)) b = endL (ns.take k) b + szG ns[k] := by rw [htk, endL_snoc]
  have hle := endL_take_le ns (k + 1) b
  have hlen : (List.replicate b 0#64 ++ (ns.take k).flatMap blankW).length = endL (ns.take k) b := by rw [List.length_append, List.length_replicate, blanks_len]
  have hs : 1 ≤ szG ns[k] := by unfold szG; omega
  unfold madeW
  rw [alloc_mid _ _ _ _ _ hs (by omega) hlen.symm, he, htk, List.flatMap_append]
  simp only [List.flatMap_cons, List.flatMap_nil, List.append_nil, blankW, List.append_assoc, Nat.sub_sub]
theorem made_all (ns : List Nv) (b need : Nat) (pl : List Nat) (hn : need = endL ns b) : madeW ns b need ns.length = doneW pl ns b 0 := by
  unfold madeW doneW
  rw [List.take_length, hn, Nat.sub_self, List.take_zero, List.drop_zero]
  simp
theorem made_len (ns : List Nv) (b need k : Nat) (hn : need = endL ns b) : (madeW ns b need k).length = need := by
  have hle := endL_take_le ns k b
  unfold madeW
  rw [List.length_append, List.length_append, List.length_replicate, List.length_replicate, blanks_len]
  omega
theorem done_all (pl : List Nat) (ns : List Nv) (b : Nat) : doneW pl ns b ns.length = List.replicate b 0#64 ++ ns.flatMap (nodeW pl) := by
  unfold doneW
  rw [List.take_length, List.drop_length]
  simp
theorem done_pre (pl : List Nat) (ns : List Nv) (b k : Nat) : (List.replicate b 0#64 ++ (ns.take k).flatMap (nodeW pl)).length = endL (ns.take k) b := by
  rw [List.length_append, List.length_replicate, nodesW_len]
theorem done_split (pl : List Nat) (ns : List Nv) (b k : Nat) (hk : k < ns.length) : doneW pl ns b k = (List.replicate b 0#64 ++ (ns.take k).flatMap (nodeW pl)) ++ halfW pl ns[k] 0 ++ (ns.drop (k + 1)).flatMap blankW := by
  unfold doneW
  rw [List.drop_eq_getElem_cons hk, List.flatMap_cons, half_zero]
  simp only [List.append_assoc]
theorem done_next (pl : List Nat) (ns : List Nv) (b k : Nat) (hk : k < ns.length) : (List.replicate b 0#64 ++ (ns.take k).flatMap (nodeW pl)) ++ nodeW pl ns[k] ++ (ns.drop (k + 1)).flatMap blankW = doneW pl ns b (k + 1) := by
  unfold doneW
  rw [List.take_succ_eq_append_getElem hk, List.flatMap_append]
  simp
theorem half_all_len (pl : List Nat) (ns : List Nv) (b need k j : Nat) (hk : k < ns.length) (hj : j ≤ ns[k].ps.length) (hn : need = endL ns b) : ((List.replicate b 0#64 ++ (ns.take k).flatMap (nodeW pl)) ++ halfW pl ns[k] j ++ (ns.drop (k + 1)).flatMap blankW).length = need := by
  have e1 := blanks_len ns b
  have e2 : ns.flatMap blankW = (ns.take k).flatMap blankW ++ (blankW ns[k] ++ (ns.drop (k + 1)).flatMap blankW) := by
    rw [← List.flatMap_cons, ← List.drop_eq_getElem_cons hk, ← List.flatMap_append, List.take_append_drop]
  have e3 := blanks_len (ns.take k) b
  rw [List.length_append, List.length_append, done_pre, half_len _ _ _ hj]
  rw [e2, List.length_append, List.length_append, blankW_len] at e1
  omega
theorem half_head (pl : List Nat) (ns : List Nv) (b k j : Nat) (hk : k < ns.length) : ((List.replicate b 0#64 ++ (ns.take k).flatMap (nodeW pl)) ++ halfW pl ns[k] j ++ (ns.drop (k + 1)).flatMap blankW).getD (endL (ns.take k) b) 0#64 = headW ns[k] := by
  have h := app_getD (List.replicate b 0#64 ++ (ns.take k).flatMap (nodeW pl)) (halfW pl ns[k] j ++ (ns.drop (k + 1)).flatMap blankW) 0#64 (i := 0) (done_pre pl ns b k).symm
  rw [← List.append_assoc] at h
  exact h
end Go.Proofs.Ytkkjnahjmomjgaa
/- image.readNode. Conditions: an object that is well. -/
namespace Go.Proofs.Ytkkjnahjmomjgaa
set_option linter.unusedVariables false
set_option linter.unusedSimpArgs false
open Go.RowKit Go.Maps
set_option maxHeartbeats 8000000
set_option maxRecDepth 100000
/-- A result that is a struct of two cells, and a number. -/
theorem res2 {fn : Func} {p u : Tmp} {ty : TypeId} {tmps : Array Value} {W : World} {g : Nat} {v y : Value} (h : fn.results = #[.cell p ty, .tmp u]) (hl : (loadVar ty ⟨g, 0, none⟩).run Try.prog W = .ok v W) (h2 : tmps.getD p undef = .pointer (some ⟨g, 0, none⟩)) (h3 : tmps.getD u undef = y) :
    (results fn tmps).run Try.prog W = .ok (.tuple #[v, y]) W := by
  rw [results_cell_tmp h, h2]
  simp [asAddr, Result.andThen, hl, h3]
theorem two_set {W : World} {g : Nat} {E : TypeId} {a b a' b' : Value} (h : Bk W g E #[a, b]) : Bk ((W.setCell ⟨g, 0, none⟩ a').setCell ⟨g, 1, none⟩ b') g E #[a', b'] := by
  have k := (h.set 0 a').set 1 b'
  simpa using k
theorem two_below {W w : World} {B g : Nat} {a' b' : Value} (h : Below B w W) (hg : B ≤ g) : Below B w ((W.setCell ⟨g, 0, none⟩ a').setCell ⟨g, 1, none⟩ b') :=
  (h.setCell (p := ⟨g, 0, none⟩) hg _).setCell (p := ⟨g, 1, none⟩) hg _
/-- What readNode answers. -/
def NodeP (w : World) (d : Nv) (r : Ending) (w' : World) : Prop :=
  ∃ x : Nv, r = .returned (.tuple #[x.v, .int .i64 0]) ∧ normN x = d ∧ Ow iV 3 w' w.heap.size x.vp x.ps ∧ Ow b8 5 w' w.heap.size x.vd x.bs ∧ (∀ k, x.vp.ownBlock = some k → x.vd.ownBlock ≠ some k) ∧ Below w.heap.size w w'
theorem ptr_well {ws : List (BitVec 64)} {l : List Nat} {b t a k : Nat} (hl : ∀ y ∈ l, b ≤ y ∧ y < t) (h : ptrN ws l a k = true) : pokB b t (ws.getD (a + 1 + k) 0#64) = true ∧ (ws.getD (a + 1 + k) 0#64).toNat ≤ t := by
  have h := of_decide_eq_true h
  unfold pokB
  rcases h with h | ⟨h1, h2⟩
  · exact ⟨decide_eq_true (.inl h), by omega⟩
  · have h3 := hl _ h2
    exact ⟨decide_eq_true (.inr ⟨by omega, by omega⟩), by omega⟩
theorem readNode_c (w : World) (B s g mb : Nat) (v : Value) (ws : List (BitVec 64)) (b t e : Nat) (sp : SpAt w B s g v ws b t e) (h8 : ws.length ≤ 8192) (l : List Nat) (hm : MapIs w (some mb) (numM l)) (hlb : ∀ y ∈ l, b ≤ y ∧ y < t) (a : Nat) (ha1 : b ≤ a) (ha2 : a < t) (hg : goodX (ws.getD a 0#64) (t - a) = true) (hw : wellN ws l a = true) :
    Calls Try.prog 99 #[.pointer (some ⟨s, 0, none⟩), .int .i64 (a : Int), .map (some mb)] w (NodeP w (dNode ws l a)) := by
  obtain ⟨x, hx⟩ : ∃ x, x = ws.getD a 0#64 := ⟨_, rfl⟩
  have hgx := hg
  rw [← hx] at hgx
  obtain ⟨hv, hP64, hB1024, hsx, hsz, hroom⟩ := head_of hgx
  have htl : t ≤ ws.length := Nat.le_trans sp.te sp.el
  have hal : a < ws.length := by omega
  have hHd := fun W (q : SpAt W B s g v ws b t e) => sphead_in W B s g v ws b t e q a ha1 ha2 (by omega) hal
  have hxe : ws[a] = x := by rw [hx, List.getD_eq_getElem?_getD, List.getElem?_eq_getElem hal]; rfl
  rw [hxe, hv] at hHd
  have HHd := Lib.hid hHd
  obtain ⟨P, hP⟩ : ∃ P, P = P0 x := ⟨_, rfl⟩
  obtain ⟨n, hn⟩ : ∃ P, P = B0 x := ⟨_, rfl⟩
  rw [← hP, ← hn] at HHd
  rw [← hP] at hP64
  rw [← hn] at hB1024
  unfold wellN at hw
  rw [Bool.and_eq_true, List.all_eq_true] at hw
  have hpt := hw.1
  obtain ⟨ps, hps⟩ : ∃ ps, ps = (List.range P).map (fun k => numV l (((ws.getD (a + 1 + k) 0#64).toNat : Int) - 1)) := ⟨_, rfl⟩
  have hpl : ps.length = P := by rw [hps]; simp
  obtain ⟨bs, hbs⟩ : ∃ bs, bs = bytesM ws (8 * (a + 1 + P) + 0) n := ⟨_, rfl⟩
  have hd : dNode ws l a = ⟨none, 0, none, 0, ps, bs⟩ := by unfold dNode; rw [← hx, ← hP, ← hn, ← hps, ← hbs]
  rw [hd]
  have HPt := Lib.hid (fun W (q : SpAt W B s g v ws b t e) (k : Nat) (hk : k < P) => show Calls Try.prog 109 #[.pointer (some ⟨s, 0, none⟩), .int .i64 a, .int .i64 k] W (RetP (.tuple #[.int .i64 (((ws.getD (a + 1 + k) 0#64).toNat : Int) - 1), .int .i64 0]) W) from by
    have h1 := Ptr_c W B s g v ws b t e q h8 a k ha1 ha2 hg (by rw [← hx, ← hP]; exact hk)
    have h2 := ptr_well (b := b) (t := t) hlb (hpt k (List.mem_range.2 (by rw [← hx, ← hP]; exact hk)))
    obtain ⟨e1, e2⟩ := pt_yes h2.1
    rw [e1, e2] at h1
    exact h1)
  have HRd := Lib.hid (fun W (q : SpAt W B s g v ws b t e) => show Calls Try.prog 111 #[.pointer (some ⟨s, 0, none⟩), .int .i64 a, .int .i64 0, .int .i64 n] W (MkEP b8 5 bs 0 W) from by
    have h1 := read_ok W B s g v ws b t e q (by omega) a 0 n ha1 ha2 hg (by rw [← hx, ← hn]; omega)
    rw [← hx, ← hP, ← hbs] at h1
    exact h1)
  have HV := Lib.hid (fun k (hk : k < P) => show ps[k]? = some (numV l (((ws.getD (a + 1 + k) 0#64).toNat : Int) - 1)) ∧ (ws.getD (a + 1 + k) 0#64).toNat ≤ 8192 from by
    refine ⟨?_, ?_⟩
    · rw [hps, List.getElem?_map, List.getElem?_range hk]; rfl
    · have h2 := ptr_well (b := b) (t := t) hlb (hpt k (List.mem_range.2 (by rw [← hx, ← hP]; exact hk)))
      omega)
  have HM := Lib.hid hm
  have HSp := Lib.hid sp
  have HPl := Lib.hid (And.intro hpl hP64)
  have aI : (a : Int) ≤ 8192 := by omega
  have PI : (P : Int) ≤ 64 := by omega
  have nI : (n : Int) ≤ 1024 := by omega
  clear hx hgx hg hv hsx hsz hroom hal hHd hxe hP hn hw hpt hps hpl hbs hd hm sp hlb htl ha1 ha2 h8 hP64 hB1024
  go_enter Try.func99, Try.ntmps99
  go_wp2_with fail
  obtain ⟨Rb, hRb⟩ : ∃ R, R = w.heap.size := ⟨_, rfl⟩
  obtain ⟨w1, hw1⟩ : ∃ W, W = w.alloc (.cells #[.slice none 0 0, .slice none 0 0] 54) := ⟨_, rfl⟩
  have hbk : Bk w1 Rb 54 #[.slice none 0 0, .slice none 0 0] := by rw [hw1, hRb]; exact Bk.new w _ _
  have b1 : Below w.heap.size w w1 := by rw [hw1]; exact Gw.alloc w _
  rw [← hw1, ← hRb]
  have H1 := Lib.hid (And.intro hbk b1)
  have HFr := Lib.hid (Nat.le_of_eq hRb.symm)
  clear hw1 hRb hbk b1
  refine Calls.mono (HHd.out w1 (HSp.out.below H1.out.2)) ?_
  rintro r w2 ⟨rfl, b2⟩
  have H2 := Lib.hid (And.intro (H1.out.1.below b2 H1.out.1.lt) (H1.out.2.trans (b2.mono H1.out.2.size)))
  clear b2 H1
  go_wp2_with fail
  obtain ⟨Hb, hHb⟩ : ∃ H, H = w2.heap.size := ⟨_, rfl⟩
  obtain ⟨w3, hw3⟩ : ∃ w3', w3' = w2.alloc (.cells #[.int .i64 (P : Int), .int .i64 (n : Int), .bool false, .int .i64 0] 112) := ⟨_, rfl⟩
  have hbk : Bk w3 Hb 112 #[.int .i64 (P : Int), .int .i64 (n : Int), .bool false, .int .i64 0] := by rw [hw3, hHb]; exact Bk.new w2 _ _
  have b23 : Below w2.heap.size w2 w3 := by rw [hw3]; exact Gw.alloc w2 _
  have z3 : w3.heap.size = Hb + 1 := by rw [hw3, hHb]; unfold World.alloc; simp
  have H3 := Lib.hid (And.intro (H2.out.1.below b23 H2.out.1.lt) (And.intro (H2.out.2.trans (b23.mono H2.out.2.size)) (And.intro hbk (And.intro (show Rb < Hb from by rw [hHb]; exact H2.out.1.lt) z3))))
  rw [← hw3, ← hHb]
  clear hw3 hHb hbk b23 z3 H2
  obtain ⟨Nb, hNc⟩ : ∃ N, N = Hb + 1 := ⟨_, rfl⟩
  have hNb : Nb = w3.heap.size := by rw [hNc, H3.out.2.2.2.2]
  obtain ⟨w4, hw4⟩ : ∃ W, W = w3.alloc (.cells #[.slice none 0 0, .slice none 0 0] 54) := ⟨_, rfl⟩
  have hbk : Bk w4 Nb 54 #[.slice none 0 0, .slice none 0 0] := by rw [hw4, hNb]; exact Bk.new w3 _ _
  have b34 : Below w3.heap.size w3 w4 := by rw [hw4]; exact Gw.alloc w3 _
  have z4 : w4.heap.size = Nb + 1 := by rw [hw4, hNb]; unfold World.alloc; simp
  have hHN : Hb < Nb := by rw [hNb, H3.out.2.2.2.2]; omega
  have hb4 : Below w.heap.size w w4 := H3.out.2.1.trans (b34.mono H3.out.2.1.size)
  have hNw : w.heap.size ≤ Nb := by rw [hNb]; exact H3.out.2.1.size
  have HF := Lib.hid (show Rb < Hb ∧ Hb < Nb ∧ w.heap.size ≤ Nb ∧ w4.heap.size = Nb + 1 from ⟨H3.out.2.2.2.1, hHN, hNw, z4⟩)
  have HS0 : Hid (∃ pv, Bk w4 Nb 54 #[pv, .slice none 0 0] ∧ Bk w4 Hb 112 #[.int .i64 (P : Int), .int .i64 (n : Int), .bool false, .int .i64 0] ∧ Bk w4 Rb 54 #[.slice none 0 0, .slice none 0 0] ∧ Ow iV 3 w4 (Nb + 1) pv (ps.take 0) ∧ Below w.heap.size w w4 ∧ Nb + 1 ≤ w4.heap.size) :=
    Lib.hid ⟨_, hbk, H3.out.2.2.1.below b34 H3.out.2.2.1.lt, H3.out.1.below b34 H3.out.1.lt, by rw [List.take_zero]; exact Ow.nil_ _ _ _ _, hb4, by rw [z4]; exact Nat.le_refl _⟩
  rw [← hw4, ← hNc]
  clear hw4 hNb hNc hbk b34 z4 hHN hb4 hNw H3
  go_loopw [26] (fun x W => ∃ k : Nat, x = .int .i64 k ∧ k ≤ P ∧ Hid (∃ pv, Bk W Nb 54 #[pv, .slice none 0 0] ∧ Bk W Hb 112 #[.int .i64 (P : Int), .int .i64 (n : Int), .bool false, .int .i64 0] ∧ Bk W Rb 54 #[.slice none 0 0, .slice none 0 0] ∧ Ow iV 3 W (Nb + 1) pv (ps.take k) ∧ Below w.heap.size w W ∧ Nb + 1 ≤ W.heap.size)) (fun x _ => P - (Go.RowKit.intOf x).toNat)
  case atStart => exact ⟨0, rfl, Nat.zero_le _, HS0⟩
  case round =>
    obtain ⟨k, rfl, hk, hS⟩ := hrel
    clear HS0
    have p0 : (0 : Int) ≤ (k : Int) := by omega
    obtain ⟨pv, e1, e2, e3, e4, e5, e6⟩ := hS.out
    by_cases hlt : k < P
    · have p1 : (k : Int) < (P : Int) := by omega
      obtain ⟨hv1, hv2⟩ := HV.out k hlt
      obtain ⟨y, hy⟩ : ∃ y, y = (ws.getD (a + 1 + k) 0#64).toNat := ⟨_, rfl⟩
      rw [← hy] at hv1 hv2
      have HPk := Lib.hid (HPt.out wr (HSp.out.below e5) k hlt)
      rw [← hy] at HPk
      have yI : (y : Int) ≤ 8192 := by omega
      obtain ⟨nv, hnv⟩ : ∃ nv, nv = numV l ((y : Int) - 1) := ⟨_, rfl⟩
      rw [← hnv] at hv1
      have HLk := Lib.hid (fun W (q : MapIs W (some mb) (numM l)) => show (Instr.lookup 97 (.map (some mb)) (.int .i64 ((y : Int) - 1)) false).run Try.prog W = .ok (.int .i64 nv) W from by
        have h1 := q.look (k := (y : Int) - 1) (by simp [Lit.wf, IntKind.min, IntKind.max, IntKind.signed, IntKind.bits]; omega)
        rw [hnv]
        exact h1)
      have htk : ps.take (k + 1) = ps.take k ++ [nv] := by
        obtain ⟨hk1, hk2⟩ := List.getElem?_eq_some_iff.1 hv1
        rw [List.take_succ_eq_append_getElem hk1, hk2]
      have hln : (ps.take k).length + [nv].length ≤ 4294967296 := by rw [List.length_take]; simp; have := HPl.out; omega
      have HX := Lib.hid (And.intro htk hln)
      have H0 := Lib.hid (And.intro e1 (And.intro e2 (And.intro e3 (And.intro e4 (And.intro e5 e6)))))
      obtain ⟨pA, pc, epv, _⟩ := e4.form
      obtain ⟨pn, hpn⟩ : ∃ pn, pn = (ps.take k).length := ⟨_, rfl⟩
      rw [← hpn] at epv
      subst epv
      clear e1 e2 e3 e4 e5 e6 hS hv1 hv2 hy hnv htk hln hpn hk
      go_wp2_with fail
      refine Calls.mono HPk.out ?_
      rintro r w6 ⟨rfl, b6⟩
      have H6 := Lib.hid (show Bk w6 Nb 54 #[.slice pA pn pc, .slice none 0 0] ∧ Bk w6 Hb 112 #[.int .i64 (P : Int), .int .i64 (n : Int), .bool false, .int .i64 0] ∧ Bk w6 Rb 54 #[.slice none 0 0, .slice none 0 0] ∧ Ow iV 3 w6 (Nb + 1) (.slice pA pn pc) (ps.take k) ∧ Below w.heap.size w w6 ∧ Nb + 1 ≤ w6.heap.size from
        ⟨H0.out.1.below b6 H0.out.1.lt, H0.out.2.1.below b6 H0.out.2.1.lt, H0.out.2.2.1.below b6 H0.out.2.2.1.lt, H0.out.2.2.2.1.below b6, H0.out.2.2.2.2.1.trans (b6.mono H0.out.2.2.2.2.1.size), Nat.le_trans H0.out.2.2.2.2.2 b6.size⟩)
      clear b6 H0 HPk
      obtain ⟨g0, g1⟩ := H6.out.1.two
      have hNl := H6.out.1.lt
      have hfz := H6.out.1.free 0
      have hmp := HM.out.kept (Kept.of_below H6.out.2.2.2.2.1 (fun _ => False)) (fun _ _ f => f)
      have hlk := HLk.out w6 hmp
      clear hmp
      go_wp2_with (at_builtin; refine wp_app oneI iV_one rfl (.tmp 41) (.tmp 45) rfl (Nb + 1) _ (ps.take k) rfl (H6.out.2.2.2.1.alloc _) (some ⟨w6.heap.size, 0, none⟩) 1 1 [nv] rfl rfl (w6.heap.size + 1) (rd1_new rfl) HX.out.2 (by decide) (Nat.le_trans H6.out.2.2.2.2.2 (Gw.alloc w6 _).size) ?_; intro v7 w7 ho7 hb7 hg7 hj7; rw [← HX.out.1] at ho7; obtain ⟨A7, c7, e7, _⟩ := ho7.form; obtain ⟨n7, hn7⟩ : ∃ n, n = (ps.take (k + 1)).length := ⟨_, rfl⟩; rw [← hn7] at e7; subst e7; clear hn7; have hk7 : Bk w7 Nb 54 #[.slice pA pn pc, .slice none 0 0] := (Kept.grown hg7).bk (H6.out.1.alloc _) (fun hh => by have := (H6.out.2.2.2.1.lt _ hh).1; omega); have H7 := Lib.hid (And.intro ho7 (And.intro hk7 (And.intro ((Kept.grown hg7).bk (H6.out.2.1.alloc _) (fun hh => by have := (H6.out.2.2.2.1.lt _ hh).1; have := HF.out; omega)) (And.intro ((Kept.grown hg7).bk (H6.out.2.2.1.alloc _) (fun hh => by have := (H6.out.2.2.2.1.lt _ hh).1; have := HF.out; omega)) (And.intro ((H6.out.2.2.2.2.1.alloc H6.out.2.2.2.2.1.size _).trans (hb7.mono (by have := HF.out; omega))) (Nat.le_trans H6.out.2.2.2.2.2 (Nat.le_trans (Gw.alloc w6 _).size hb7.size))))))); clear g0 g1 hNl hfz hlk; obtain ⟨g0, g1⟩ := hk7.two; have hNl := hk7.lt; have hfz := hk7.free 0; clear ho7 hb7 hg7 hj7 hk7)
      have HN : Hid (∃ pv, Bk (w7.setCell ⟨Nb, 0, none⟩ (.slice A7 n7 c7)) Nb 54 #[pv, .slice none 0 0] ∧ Bk (w7.setCell ⟨Nb, 0, none⟩ (.slice A7 n7 c7)) Hb 112 #[.int .i64 (P : Int), .int .i64 (n : Int), .bool false, .int .i64 0] ∧ Bk (w7.setCell ⟨Nb, 0, none⟩ (.slice A7 n7 c7)) Rb 54 #[.slice none 0 0, .slice none 0 0] ∧ Ow iV 3 (w7.setCell ⟨Nb, 0, none⟩ (.slice A7 n7 c7)) (Nb + 1) pv (ps.take (k + 1)) ∧ Below w.heap.size w (w7.setCell ⟨Nb, 0, none⟩ (.slice A7 n7 c7)) ∧ Nb + 1 ≤ (w7.setCell ⟨Nb, 0, none⟩ (.slice A7 n7 c7)).heap.size) := by
        obtain ⟨h1, h2, h3, h4, h5, h6⟩ := H7.out
        have hs : (w7.setCell ⟨Nb, 0, none⟩ (.slice A7 n7 c7)).heap.size = w7.heap.size := by simp [World.setCell]
        refine Lib.hid ⟨_, by have := h2.set 0 (.slice A7 n7 c7); simpa using this, (Kept.set w7 Nb 0 (.slice A7 n7 c7)).bk h3 (by have := HF.out; omega), (Kept.set w7 Nb 0 (.slice A7 n7 c7)).bk h4 (by have := HF.out; omega), (Kept.set w7 Nb 0 (.slice A7 n7 c7)).ow h1 (fun j hj hh => by have := (h1.lt j hj).1; omega), h5.setCell (p := ⟨Nb, 0, none⟩) (show w.heap.size ≤ Nb from HF.out.2.2.1) _, by rw [hs]; exact h6⟩
      clear g0 g1 hNl hfz H7 H6
      go_roundw
      case rel => first | exact ⟨k + 1, by go_num, by omega, HN⟩ | ((repeat apply Exists.intro); refine ⟨?_, rfl⟩; exact ⟨k + 1, by go_num, by omega, HN⟩)
      case measure => simp [Go.RowKit.intOf]; omega
    · have p1 : ¬ (k : Int) < (P : Int) := by omega
      have hkP : ps.take k = ps := List.take_of_length_le (by have := HPl.out; omega)
      rw [hkP] at e4
      have H0 := Lib.hid (And.intro e1 (And.intro e2 (And.intro e3 (And.intro e4 (And.intro e5 e6)))))
      have HR := Lib.hid (HRd.out wr (HSp.out.below e5))
      obtain ⟨pA, pc, epv, hpc⟩ := e4.form
      obtain ⟨pn, hpn⟩ : ∃ pn, pn = ps.length := ⟨_, rfl⟩
      rw [← hpn] at epv
      have HPn := Lib.hid hpn
      subst epv
      obtain ⟨g0, g1, g2, g3⟩ := e2.four
      have hHl := e2.lt
      clear e1 e2 e3 e4 e5 e6 hS hkP hpc hpn hk
      go_wp2_with fail
      refine Calls.mono HR.out ?_
      rintro r w6 ⟨dA, dc, rfl, hdc, ho6, b6⟩
      obtain ⟨dn, hdn⟩ : ∃ dn, dn = bs.length := ⟨_, rfl⟩
      rw [← hdn] at ho6 ⊢
      have H6 := Lib.hid (show Bk w6 Nb 54 #[.slice pA pn pc, .slice none 0 0] ∧ Bk w6 Rb 54 #[.slice none 0 0, .slice none 0 0] ∧ Ow iV 3 w6 (Nb + 1) (.slice pA pn pc) ps ∧ Below w.heap.size w w6 ∧ Nb + 1 ≤ w6.heap.size ∧ Ow b8 5 w6 wr.heap.size (.slice dA dn dc) bs ∧ (∀ j, (Value.slice pA pn pc).ownBlock = some j → j < wr.heap.size) ∧ Nb + 1 ≤ wr.heap.size ∧ dn = bs.length from
        ⟨H0.out.1.below b6 H0.out.1.lt, H0.out.2.2.1.below b6 H0.out.2.2.1.lt, H0.out.2.2.2.1.below b6, H0.out.2.2.2.2.1.trans (b6.mono H0.out.2.2.2.2.1.size), Nat.le_trans H0.out.2.2.2.2.2 b6.size, ho6, fun j hj => (H0.out.2.2.2.1.lt j hj).2, H0.out.2.2.2.2.2, hdn⟩)
      clear b6 ho6 hdc hdn H0 HR g0 g1 g2 g3 hHl
      obtain ⟨g0, g1⟩ := H6.out.1.two
      have hNl := H6.out.1.lt
      have hfz := H6.out.1.free 1
      obtain ⟨q0, q1⟩ := H6.out.2.1.two
      have hRl := H6.out.2.1.lt
      have hfr0 := H6.out.2.1.free 0
      have hfr1 := H6.out.2.1.free 1
      have hne : Rb ≠ Nb := by have := HF.out; omega
      go_wp2_with fail
      obtain ⟨W, hW⟩ : ∃ W, W = (((w6.setCell ⟨Nb, 1, none⟩ (.slice dA dn dc)).setCell ⟨Rb, 0, none⟩ (.slice pA pn pc)).setCell ⟨Rb, 1, none⟩ (.slice dA dn dc)) := ⟨_, rfl⟩
      have kR : Bk W Rb 54 #[.slice pA pn pc, .slice dA dn dc] := by rw [hW]; exact two_set ((Kept.set w6 Nb 1 _).bk H6.out.2.1 hne)
      have kW : Kept (fun j => j = Nb ∨ j = Rb) w6 W := by
        rw [hW]
        exact (((Kept.set w6 Nb 1 _).more fun j hj => .inl hj).trans ((Kept.set _ Rb 0 _).more fun j hj => .inr hj)).trans ((Kept.set _ Rb 1 _).more fun j hj => .inr hj)
      have hl := run_loadVar_row (P := Try.prog) W Rb 54 54 #[.slice pA pn pc, .slice dA dn dc] (0, 0) _ kR Try.underlying54 rfl (by kernel_rfl)
      rw [← hW]
      clear hW g0 g1 hNl hfz q0 q1 hRl hfr0 hfr1
      refine bodyPost_ret (res2 (p := 6) (u := 7) (by kernel_rfl) hl rfl rfl) rfl ?_
      obtain ⟨i1, i2, i3, i4⟩ := HF.out
      obtain ⟨h1, h2, h3, h4, h5, h6, h7, h8, h9⟩ := H6.out
      refine ⟨⟨pA, pc, dA, dc, ps, bs⟩, ?_, rfl, ?_, ?_, fun j hj hh => ?_, h4.trans (kW.below h4.size fun j hj => ?_)⟩
      · show _ = Ending.returned (.tuple #[.agg #[.slice pA ps.length pc, .slice dA bs.length dc], .int .i64 0])
        rw [← HPn.out, ← h9]
        rfl
      · show Ow iV 3 W w.heap.size (.slice pA ps.length pc) ps
        rw [← HPn.out]
        exact (kW.ow h3 (fun j hj hn => by have := (h3.lt j hj).1; omega)).mono (by omega)
      · show Ow b8 5 W w.heap.size (.slice dA bs.length dc) bs
        rw [← h9]
        exact (kW.ow h6 (fun j hj hn => by have := (h6.lt j hj).1; omega)).mono (by omega)
      · have e1 : (Value.slice pA pn pc).ownBlock = some j := by rw [HPn.out]; exact hj
        have e2 : (Value.slice dA dn dc).ownBlock = some j := by rw [h9]; exact hh
        have := h7 j e1
        have := (h6.lt j e2).1
        omega
      · have h10 : w.heap.size ≤ Rb := HFr.out
        omega
end Go.Proofs.Ytkkjnahjmomjgaa
/- Names read out of rows of bytes. No conditions. -/
namespace Go.Proofs.Ytkkjnahjmomjgaa
set_option linter.unusedVariables false
set_option linter.unusedSimpArgs false
open Go.RowKit Go.Maps
set_option maxHeartbeats 2000000
set_option maxRecDepth 100000
/-- Is what a Root has for a name one? -/
def nmOk (k : Nm) : Bool := decide (goodN (cutN k) ∧ padNm (cutN k) = k)
theorem ldRd {w : World} {B : Nat} {a : Addr} {xs : Nm} (hr : Rd b8 w B (some a) xs) (hl : nW xs) : (loadVar 120 a).run Try.prog w = .ok (.agg (nC xs)) w := by
  have hc : (loadCells a (xs.map b8).length).run Try.prog w = .ok (xs.map b8).toArray w := run_loadCells_list w a (xs.map b8) (fun j v hv => by
    rw [List.getElem?_map] at hv
    cases hx : xs[j]? with
    | none => rw [hx] at hv; cases hv
    | some y =>
      rw [hx] at hv
      injection hv with hv
      obtain ⟨hj, e⟩ := List.getElem?_eq_some_iff.1 hx
      obtain ⟨ad, had, _, h⟩ := hr j hj
      injection had with had
      subst had
      rw [h, ← hv, e])
  rw [List.length_map, hl] at hc
  have hagg : (isAgg 120).run Try.prog w = .ok true w := by
    unfold isAgg
    rw [Sem.run_bind, run_underlying Try.underlying120 w]
    rfl
  have hsz : (sizeOf 120).run Try.prog w = .ok 32 w := by kernel_rfl
  unfold loadVar
  simp only [Sem.run_bind, hagg, Result.andThen_ok, if_true, hsz, hc, Sem.run_pure]
  rfl
theorem arrN (A : Option Addr) (c : Nat) (W : World) : (Instr.arrayAt 120 (.slice A 32 c)).run Try.prog W = .ok (.pointer A) W := by
  unfold Instr.arrayAt
  rw [Sem.run_bind, run_underlying Try.underlying120 W]
  rfl
section
variable {ops : Array Oper} {rest : List Oper} {o : Oper} {a : Act} {w : World} {Q : Exit → Act → World → Prop}
end
theorem opv_ldRd {ρ : Operand → Value} {x : Operand} {w : World} {B : Nat} {ad : Addr} {xs : Nm} {ty : TypeId} (hx : ρ x = .pointer (some ad)) (hr : Rd b8 w B (some ad) xs) (hl : nW xs) :
    OpV Try.prog (.load 120 x) ty ρ w (fun v w2 => Below w.heap.size w w2 ∧ IsV (.agg (nC xs)) v w2) :=
  opv_val (by unfold execOp; simp [hx, Instr.loadAt, Instr.sureAddr, ldRd hr hl]) ⟨gw_self _, rfl⟩
end Go.Proofs.Ytkkjnahjmomjgaa
/- A region whose last but one operation waits for all others, and whose last one waits for that: by facts for the others, and then those two. No conditions. -/
namespace Go.Proofs.Ytkkjnahjmomjgaa
set_option linter.unusedVariables false
set_option linter.unusedSimpArgs false
open Go.RowKit
section
variable {P : Program} {ops : Array Oper} {Q : Exit → Act → World → Prop} {G : World → World → Prop} {F : Nat → Value → World → Prop} {a0 : Act} {w0 : World}
def regT2B (ops : Array Oper) (m size : Nat) : Bool :=
  ops.size == m + 2 && ((List.range m).all fun j => waitsB ops m j || (List.range m).any fun k => decide (j < k) && waitsB ops k j) && ((List.range (m + 2)).all fun i => eldB ops i) && ((List.range m).all fun i => ownB ops m size i) && waitsB ops (m + 1) m
theorem region_tail2 {id m : Nat} (hm : P.follows .mixedOrders = true) (hrefl : G w0 w0.drew) (htrans : ∀ a b c, G a b → G b c → G a c) (hmono : ∀ j, j < m → ∀ v a b, F j v a → G a b → F j v b)
    (hreg : regT2B ops m a0.tmps.size = true) (howes : ∀ i, i < m → Owes P ops Q G F a0 w0 i)
    (fin : ∀ (vals : Nat → Value) (w : World), G w0 w → (∀ j, j < m → F j (vals j) w) → wpOp P ops Q m (fun a w => wpOp P ops Q (m + 1) (fun a w => Q .normal a w) a w) (putL ops vals (List.range m) a0) w) :
    (Code.region id ops true).wp P Q a0 w0 := by
  unfold regT2B at hreg
  simp only [Bool.and_eq_true, beq_iff_eq, List.all_eq_true, List.mem_range] at hreg
  obtain ⟨⟨⟨⟨hsize, hwaits⟩, held⟩, hown⟩, hlast⟩ := hreg
  have getT : ∀ (l : Array Bool) (k : Nat) (b c : Bool), k < l.size → l.getD k b = l.getD k c := by
    intro l k b c hk
    rw [Array.getD_eq_getD_getElem?, Array.getD_eq_getD_getElem?, Array.getElem?_eq_getElem hk]; rfl
  have main : ∀ (fuel : Nat) (listed : Array Bool) (a : Act) (w : World), listed.size = ops.size → listed.getD m true = false → listed.getD (m + 1) true = false →
      ((List.range ops.size).filter fun j => !listed.getD j true).length ≤ fuel →
      G w0 w → a.defers = a0.defers → a.tmps.size = a0.tmps.size →
      (∀ j, j < m → listed.getD j true = true → F j (valAt ops a j) w) →
      (∀ t, (∀ j, j < m → listed.getD j true = true → dstOf ops j ≠ some t) → a.tmps.getD t undef = a0.tmps.getD t undef) →
      (∀ j, j < m → listed.getD j true = true → ∀ k, waitsB ops j k = true → listed.getD k false = true) →
      wpAny P .any ops Q fuel listed a w := by
    intro fuel
    induction fuel with
    | zero =>
      intro listed a w hsz hun hun2 hcnt
      exfalso
      have : m ∈ (List.range ops.size).filter fun j => !listed.getD j true := List.mem_filter.2 ⟨List.mem_range.2 (by omega), by simp only [hun]; rfl⟩
      rw [List.eq_nil_of_length_eq_zero (Nat.le_zero.1 hcnt)] at this
      cases this
    | succ fuel ih =>
      intro listed a w hsz hun hun2 hcnt hG hd hs hF hR hC
      refine ⟨fun hr => ?_, fun i hi => ?_⟩
      · exfalso
        have up : ∀ j, j < m + 2 → listed.getD j true = true := by
          intro j
          induction j using Nat.strongRecOn with
          | ind j ihj =>
            intro hj
            cases hl : listed.getD j true with
            | true => rfl
            | false =>
              exfalso
              obtain ⟨o, ho, he⟩ := eldB_out (held j hj)
              have : j ∈ Region.ready .any ops listed := mem_ready.2 ⟨hl, o, ho, fun e hem hb => by
                have hlt := he e hem hb
                rw [getT _ _ false true (by omega)]
                exact ihj e.on hlt (by omega)⟩
              rw [hr] at this
              cases this
        rw [up m (by omega)] at hun
        cases hun
      · obtain ⟨hui, o, ho, hall⟩ := mem_ready.1 hi
        have hlt : i < ops.size := (Array.getElem?_eq_some_iff.1 ho).1
        have hlz : i < listed.size := by omega
        have hw : ∀ j, waitsB ops i j = true → j < ops.size ∧ listed.getD j true = true := by
          intro j hj
          obtain ⟨o', ho', e, he, hb, rfl⟩ := waits_some hj
          rw [ho] at ho'
          injection ho' with ho'
          subst ho'
          have h1 := hall e he hb
          rcases Nat.lt_or_ge e.on listed.size with hl | hl
          · refine ⟨by omega, ?_⟩
            rw [getT _ _ true false hl]
            exact h1
          · rw [Array.getD_eq_getD_getElem?, Array.getElem?_eq_none hl] at h1; cases h1
        have hset : ∀ j b, (listed.setIfInBounds i true).getD j b = if j = i then true else listed.getD j b := by
          intro j b
          rw [Array.getD_eq_getD_getElem?, Array.getD_eq_getD_getElem?, Array.getElem?_setIfInBounds]
          by_cases e : i = j
          · subst e; simp [hlz]
          · rw [if_neg e, if_neg (fun h => e h.symm)]
        by_cases him : i = m
        · subst him
          have hall2 : ∀ n j, j < i → i - j ≤ n → listed.getD j true = true := by
            intro n
            induction n with
            | zero => intro j hj hn; omega
            | succ n ihn =>
              intro j hj hn
              have h1 := hwaits j hj
              rw [Bool.or_eq_true] at h1
              rcases h1 with h1 | h1
              · exact (hw j h1).2
              · rw [List.any_eq_true] at h1
                obtain ⟨k, hk, hkj⟩ := h1
                rw [Bool.and_eq_true, decide_eq_true_eq] at hkj
                have hki := List.mem_range.1 hk
                rw [getT _ _ true false (by omega)]
                exact hC k hki (ihn k hki (by omega)) j hkj.2
          have hall' : ∀ j, j < i → listed.getD j true = true := fun j hj => hall2 (i - j) j hj (Nat.le_refl _)
          have h1 := fin (valAt ops a) w hG (fun j hj => hF j hj (hall' j hj))
          rw [putL_whole a (List.range i) a0 hs.symm hd.symm] at h1
          · refine wpOp_mono (fun a' w' hq => ?_) h1
            have hset2 : ∀ j, j < ops.size → j ≠ i + 1 → (listed.setIfInBounds i true).getD j true = true := fun j hj hne => by
              rw [hset]
              by_cases e : j = i
              · rw [if_pos e]
              · rw [if_neg e]; exact hall' j (by omega)
            have hun3 : (listed.setIfInBounds i true).getD (i + 1) true = false := by rw [hset, if_neg (by omega)]; exact hun2
            obtain ⟨f1, rfl⟩ : ∃ f, fuel = f + 1 := by
              have h2 : ((List.range ops.size).filter fun j => !listed.getD j true).length ≤ fuel + 1 := hcnt
              have h4 := List.Nodup.length_le_of_subset (l₁ := [i, i + 1]) (l₂ := (List.range ops.size).filter fun j => !listed.getD j true) (by simp) (fun x hx => by
                simp only [List.mem_cons, List.not_mem_nil, or_false] at hx
                rcases hx with rfl | rfl
                · exact List.mem_filter.2 ⟨List.mem_range.2 (by omega), by simp only [hun]; rfl⟩
                · exact List.mem_filter.2 ⟨List.mem_range.2 (by omega), by simp only [hun2]; rfl⟩)
              simp only [List.length_cons, List.length_nil] at h4
              exact ⟨fuel - 1, by omega⟩
            obtain ⟨o2, ho2, he2⟩ := eldB_out (held (i + 1) (by omega))
            have hrd : i + 1 ∈ Region.ready .any ops (listed.setIfInBounds i true) := mem_ready.2 ⟨hun3, o2, ho2, fun e hem hb => by
              have hlt2 := he2 e hem hb
              rw [getT _ _ false true (by simp only [Array.size_setIfInBounds]; omega)]
              exact hset2 e.on (by omega) (by omega)⟩
            refine ⟨fun hr => ?_, fun k hk => ?_⟩
            · exfalso
              rw [hr] at hrd
              cases hrd
            · obtain ⟨h2, o3, ho3, _⟩ := mem_ready.1 hk
              have hkl : k < ops.size := (Array.getElem?_eq_some_iff.1 ho3).1
              have hki : k = i + 1 := by
                by_cases e : k = i + 1
                · exact e
                · rw [hset2 k hkl e] at h2; cases h2
              subst hki
              refine wpOp_mono (fun a2 w2 hq2 => ?_) hq
              refine wpAny_done ?_ hq2 f1
              apply List.eq_nil_iff_forall_not_mem.2
              intro j hj
              obtain ⟨h5, o5, ho5, _⟩ := mem_ready.1 hj
              have hj2 : j < ops.size := (Array.getElem?_eq_some_iff.1 ho5).1
              rw [Array.getD_eq_getD_getElem?, Array.getElem?_setIfInBounds] at h5
              by_cases e : i + 1 = j
              · subst e
                rw [if_pos rfl] at h5
                simp [hsz, hj2] at h5
              · rw [if_neg e, ← Array.getD_eq_getD_getElem?, hset2 j hj2 (fun h => e h.symm)] at h5; cases h5
          · intro t
            by_cases e : ∃ j, j < i ∧ dstOf ops j = some t
            · obtain ⟨j, hj, hjd⟩ := e
              exact .inr ⟨j, List.mem_range.2 hj, hjd⟩
            · left
              exact (hR t fun j hj _ he => e ⟨j, hj, he⟩).symm
        · have him2 : i ≠ m + 1 := fun e => by
            subst e
            have h9 := (hw m hlast).2
            rw [hun] at h9; cases h9
          have hi' : i < m := by omega
          obtain ⟨d, hdo, hdl, hdd⟩ := ownB_out (hown i hi')
          have hwm : ∀ j, waitsB ops i j = true → j < m := by
            intro j hj
            obtain ⟨o', ho', e, he, hb, rfl⟩ := waits_some hj
            obtain ⟨o2, ho2, he2⟩ := eldB_out (held i (by omega))
            rw [ho'] at ho2
            injection ho2 with ho2
            subst ho2
            have := he2 e he hb
            omega
          have hstep := howes i hi' a w hG hd hs (fun j hj => hF j (hwm j hj) (hw j hj).2) (fun t ht => hR t fun j hj hl he => by
            have h1 := hC j hj hl i (ht j he)
            rw [getT _ _ false true hlz, hui] at h1
            cases h1)
          refine wpOp_mono ?_ hstep
          rintro a' w' ⟨v, rfl, hg, hf⟩
          rw [hdo]
          refine ih (listed.setIfInBounds i true) (a.put (some d) v) w' (by simp [hsz]) (by rw [hset, if_neg (fun h => him h.symm)]; exact hun) (by rw [hset, if_neg (fun h => him2 h.symm)]; exact hun2) ?_ (htrans _ _ _ hG hg) (by exact hd) (by rw [put_size, hs]) ?_ ?_ ?_
          · have := filter_less (p := fun j => !listed.getD j true) (q := fun j => !(listed.setIfInBounds i true).getD j true) (i := i) (l := List.range ops.size) (fun x hx => by
              rw [hset] at hx
              by_cases e : x = i
              · rw [if_pos e] at hx; cases hx
              · rw [if_neg e] at hx; exact hx) (List.mem_range.2 hlt) (by rw [hui]; rfl) (by rw [hset, if_pos rfl]; rfl)
            omega
          · intro j hj hl
            by_cases e : j = i
            · subst e
              unfold valAt
              rw [hdo]
              simp only
              rw [put_same _ _ _ (by rw [hs]; exact hdl)]
              exact hf
            · rw [hset, if_neg e] at hl
              have h1 := hmono j hj _ _ _ (hF j hj hl) hg
              have h2 : valAt ops (a.put (some d) v) j = valAt ops a j := by
                unfold valAt
                have hne := hdd j hj e
                cases hjd : dstOf ops j with
                | none => rfl
                | some dj =>
                  simp only
                  exact put_other _ _ _ _ (fun h => hne (by rw [hjd]; exact h.symm))
              rw [h2]
              exact h1
          · intro t ht
            have h1 : some d ≠ some t := fun h => ht i hi' (by rw [hset, if_pos rfl]) (by rw [hdo]; exact h)
            rw [put_other _ _ _ _ h1]
            exact hR t fun j hj hl => ht j hj (by rw [hset]; split <;> simp_all)
          · intro j hj hl k hk
            rw [hset]
            by_cases e : k = i
            · rw [if_pos e]
            · rw [if_neg e]
              by_cases e2 : j = i
              · subst e2
                have h1 := hw k hk
                rw [getT _ _ false true (by omega)]
                exact h1.2
              · rw [hset, if_neg e2] at hl
                exact hC j hj hl k hk
  refine wp_region_any hm ?_
  refine main ops.size (Array.replicate ops.size false) a0 w0.drew (by simp) ?_ ?_ ?_ hrefl rfl rfl ?_ ?_ ?_
  · rw [Array.getD_eq_getD_getElem?, Array.getElem?_eq_getElem (by simp; omega)]
    simp
  · rw [Array.getD_eq_getD_getElem?, Array.getElem?_eq_getElem (by simp; omega)]
    simp
  · exact Nat.le_trans (List.length_filter_le _ _) (by simp)
  · intro j hj hl
    rw [Array.getD_eq_getD_getElem?, Array.getElem?_eq_getElem (by simp; omega)] at hl
    simp at hl
  · intro t _; rfl
  · intro j hj hl
    rw [Array.getD_eq_getD_getElem?, Array.getElem?_eq_getElem (by simp; omega)] at hl
    simp at hl
/-- region_tail2, by lists. -/
theorem region_by_tail2 {id m : Nat} (Fs : List (Value → World → Prop)) (ds : List Tmp)
    (hm : P.follows .mixedOrders = true) (hrefl : G w0 w0.drew) (htrans : ∀ a b c, G a b → G b c → G a c)
    (hreg : regT2B ops m a0.tmps.size = true) (hds : (List.range' 0 m).map (dstOf ops) = ds.map some)
    (hmono : ∀ f ∈ Fs, ∀ v a b, f v a → G a b → f v b)
    (howes : AllN (Owes P ops Q G (fun j => Fs.getD j fun _ _ => True) a0 w0) m 0)
    (fin : ∀ (vals : Nat → Value) (w : World), G w0 w → (∀ j, j < m → (Fs.getD j fun _ _ => True) (vals j) w) → wpOp P ops Q m (fun a w => wpOp P ops Q (m + 1) (fun a w => Q .normal a w) a w) (putD vals ds 0 a0) w) :
    (Code.region id ops true).wp P Q a0 w0 := by
  refine region_tail2 (m := m) hm hrefl htrans ?_ hreg (fun i hi => howes.at_ _ _ i (by omega) (by omega)) ?_
  · intro j _ v a b h g
    rw [List.getD_eq_getElem?_getD] at h ⊢
    cases hj : Fs[j]? with
    | none => rw [hj] at h; exact trivial
    | some f => rw [hj] at h; exact hmono f (List.mem_of_getElem? hj) v a b h g
  · intro vals w hG hF
    rw [List.range_eq_range', putD_eq vals ds m 0 a0 hds]
    exact fin vals w hG hF
/-- The last but one, by what it does alone; the last one behind it. -/
theorem next_spine {m : Nat} {K : Act → World → Prop} {d : Option Tmp} {op : Op} {type : TypeId} {a : Act} {w : World} (ho : (ops[m]?).map (fun o => (o.op, o.type)) = some (op, type)) (hdo : (ops[m]?).map (·.dst) = some d) (hg : (ops[m]?).bind (·.guard) = none)
    (h : wpList P #[{ dst := d, op, type, pos := "", after := #[], guard := none }] (SpineQ a.defers (fun _ => True) K) [{ dst := d, op, type, pos := "", after := #[], guard := none }] a w) : wpOp P ops Q m K a w := by
  cases hi : ops[m]? with
  | none => rw [hi] at ho; cases ho
  | some o =>
    rw [hi] at ho hdo hg
    obtain ⟨dst, op', type', pos, after, guard⟩ := o
    simp only [Option.map_some, Option.some.injEq, Prod.mk.injEq] at ho hdo
    obtain ⟨rfl, rfl⟩ := ho
    subst hdo
    simp only [Option.bind_some] at hg
    subst hg
    unfold wpOp
    rw [hi]
    unfold wpList at h
    simp only [Region.wanted, if_true] at h ⊢
    left
    have he : execOp a.eval { dst, op := op', type := type', pos, after, guard := none } = execOp a.eval { dst, op := op', type := type', pos := "", after := #[], guard := none } := by
      cases op' <;> rfl
    rcases h with h | ⟨_, h2⟩
    · unfold Oper.wp at h ⊢
      rw [he]
      generalize (execOp a.eval { dst, op := op', type := type', pos := "", after := #[], guard := none }).run P w = r at *
      cases r with
      | ok n w' =>
        cases n <;> simp only [Oper.upon, wpList] at h ⊢
        case value u => exact h.2.2
        case skip => exact h.2.2
        case defer u => exact h.2.2
        case enter f args =>
          refine Calls.mono h fun e w'' he => ?_
          cases e with
          | returned u => exact he.2.2
          | panicked c => exact he.elim
          | outgrown => obtain ⟨_, _, hf⟩ := he; exact hf.elim
        case row row args => exact Rows.mono h fun u w'' he => he.2.2
      | halt x w' =>
        cases x <;> simp only [Oper.upon] at h ⊢
        case panic u => exact h.elim
    · obtain ⟨_, _, h3⟩ := h2
      exact h3.elim
theorem wpOp_weak {m : Nat} {K K2 : Act → World → Prop} {a : Act} {w : World} (h : wpOp P ops Q m K a w) (hk : ∀ a w, K a w → K2 a w) : wpOp P ops Q m K2 a w := wpOp_mono (fun a w => hk a w) h
theorem next_spine2 {m n : Nat} {d d2 : Option Tmp} {op op2 : Op} {type type2 : TypeId} {a : Act} {w : World} (ho : (ops[m]?).map (fun o => (o.op, o.type)) = some (op, type)) (hdo : (ops[m]?).map (·.dst) = some d) (hg : (ops[m]?).bind (·.guard) = none)
    (ho2 : (ops[n]?).map (fun o => (o.op, o.type)) = some (op2, type2)) (hdo2 : (ops[n]?).map (·.dst) = some d2) (hg2 : (ops[n]?).bind (·.guard) = none)
    (h : wpList P #[{ dst := d, op, type, pos := "", after := #[], guard := none }] (SpineQ a.defers (fun _ => True) (fun a w => wpList P #[{ dst := d2, op := op2, type := type2, pos := "", after := #[], guard := none }] Q [{ dst := d2, op := op2, type := type2, pos := "", after := #[], guard := none }] a w)) [{ dst := d, op, type, pos := "", after := #[], guard := none }] a w) :
    wpOp P ops Q m (fun a w => wpOp P ops Q n (fun a w => Q .normal a w) a w) a w :=
  wpOp_weak (next_spine ho hdo hg h) fun _ _ h => last_list ho2 hdo2 hg2 h
end
end Go.Proofs.Ytkkjnahjmomjgaa
