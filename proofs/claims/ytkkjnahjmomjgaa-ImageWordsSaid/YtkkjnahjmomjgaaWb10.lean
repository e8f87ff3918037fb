/- Texts joined: PwA DeD DeE ImE RegG RegH ImF ImG. -/
import Derived.Test.YtkkjnahjmomjgaaWb9
import Derived.Test.YtkkjnahjmomjgaaRegL
import Derived.Test.YtkkjnahjmomjgaaHdK
import Derived.Laws.Rows
import Derived.Laws.Tables
import Derived.Test.YtkkjnahjmomjgaaMmC
import Derived.Test.YtkkjnahjmomjgaaGrC
/- Words in which nothing is wrong are a graph's (pure). Conditions: lengths. -/
namespace Go.Proofs.Ytkkjnahjmomjgaa
set_option linter.unusedVariables false
set_option linter.unusedSimpArgs false
open Go.RowKit Go.Maps
set_option maxHeartbeats 1000000
theorem ext_getD {α : Type} (d : α) {a b : List α} (hl : a.length = b.length) (h : ∀ i, i < a.length → a.getD i d = b.getD i d) : a = b := by
  apply List.ext_getElem hl
  intro i h1 h2
  have h3 := h i h1
  rw [List.getD_eq_getElem?_getD, List.getD_eq_getElem?_getD, List.getElem?_eq_getElem h1, List.getElem?_eq_getElem h2] at h3
  exact h3
theorem slice_getD {α : Type} (d : α) (ws : List α) (a k i : Nat) (h : i < k) : ((ws.drop a).take k).getD i d = ws.getD (a + i) d := by
  rw [List.getD_eq_getElem?_getD, List.getD_eq_getElem?_getD, List.getElem?_take, if_pos h, List.getElem?_drop]
theorem slice_len {α : Type} (ws : List α) (a k : Nat) (h : a + k ≤ ws.length) : ((ws.drop a).take k).length = k := by
  rw [List.length_take, List.length_drop]
  omega
theorem slice_app {α : Type} (ws : List α) (a k m : Nat) : (ws.drop a).take (k + m) = (ws.drop a).take k ++ (ws.drop (a + k)).take m := by
  rw [List.take_add, List.drop_drop]
theorem bytesM_getD (ws : List (BitVec 64)) (a n j : Nat) : (bytesM ws a n).getD j 0#8 = if j < n then byteAt ws (a + j) else 0#8 := by
  unfold bytesM
  by_cases h : j < n
  · rw [if_pos h, List.getD_eq_getElem?_getD, List.getElem?_map, List.getElem?_range h]
    rfl
  · rw [if_neg h, List.getD_eq_getElem?_getD, List.getElem?_eq_none (by rw [List.length_map, List.length_range]; omega)]
    rfl
theorem words_back {ws : List (BitVec 64)} {a n : Nat} (hl : a + (n + 7) / 8 ≤ ws.length) (hz : ∀ j, n ≤ j → j < 8 * ((n + 7) / 8) → byteAt ws (8 * a + j) = 0#8) : wordsW (bytesM ws (8 * a) n) = (ws.drop a).take ((n + 7) / 8) := by
  have hn : (bytesM ws (8 * a) n).length = n := by unfold bytesM; rw [List.length_map, List.length_range]
  apply ext_getD 0#64
  · rw [wordsW_len, hn, slice_len _ _ _ hl]
  · intro q hq
    rw [wordsW_len, hn] at hq
    rw [slice_getD _ _ _ _ _ hq]
    unfold wordsW
    rw [hn, wordsN_get _ hq]
    apply BitVec.eq_of_getLsbD_eq
    intro i hi
    rw [leN_bit _ i hi, take_getD _ (by omega), drop_getD, bytesM_getD]
    have hb : ∀ m, m < 8 → (byteAt ws (8 * a + (8 * q + i / 8))).getLsbD m = (ws.getD (a + q) 0#64).getLsbD (8 * (i / 8) + m) := fun m hm => by
      unfold byteAt
      rw [show (8 * a + (8 * q + i / 8)) / 8 = a + q from by omega, show (8 * a + (8 * q + i / 8)) % 8 = i / 8 from by omega, BitVec.getLsbD_setWidth, BitVec.getLsbD_ushiftRight]
      simp [hm]
    have hm := hb (i % 8) (Nat.mod_lt _ (by decide))
    rw [show 8 * (i / 8) + i % 8 = i from by omega] at hm
    rw [← hm]
    by_cases hj : 8 * q + i / 8 < n
    · rw [if_pos hj]
    · rw [if_neg hj, hz _ (by omega) (by omega)]
theorem pt_back {pl : List Nat} (hr : pl.Pairwise (· < ·)) {w : BitVec 64} (h : w.toNat = 0 ∨ (1 ≤ w.toNat ∧ w.toNat - 1 ∈ pl)) : pointW pl (numV pl ((w.toNat : Int) - 1)) = w ∧ okP pl.length (numV pl ((w.toNat : Int) - 1)) = true := by
  rcases h with h | ⟨h1, h2⟩
  · rw [h]
    have e : numV pl (((0 : Nat) : Int) - 1) = 0 := numV_no pl
    rw [e]
    refine ⟨?_, rfl⟩
    unfold pointW
    rw [if_pos rfl]
    exact BitVec.eq_of_toNat_eq (by rw [h]; rfl)
  · obtain ⟨i, hi, e⟩ := List.getElem_of_mem h2
    have e1 : (w.toNat : Int) - 1 = ((pl[i] : Nat) : Int) := by rw [e]; omega
    rw [e1, numV_at hr hi]
    constructor
    · unfold pointW
      rw [if_neg (by omega), show ((i + 1 : Nat) : Int).toNat - 1 = i from by omega, List.getD_eq_getElem?_getD, List.getElem?_eq_getElem hi]
      apply BitVec.eq_of_toNat_eq
      rw [BitVec.toNat_ofNat]
      show (pl[i] + 1) % 2 ^ 64 = w.toNat
      rw [e, Nat.sub_add_cancel h1]
      exact Nat.mod_eq_of_lt w.isLt
    · unfold okP hasG
      rw [Bool.or_eq_true]
      right
      exact decide_eq_true ⟨by omega, by omega⟩
theorem node_back {ws : List (BitVec 64)} {l : List Nat} {a room : Nat} (hr : l.Pairwise (· < ·)) (hg : goodX (ws.getD a 0#64) room = true) (hl : a + room ≤ ws.length) (hw : wellN ws l a = true) :
    nodeW l (dNode ws l a) = (ws.drop a).take (szX (ws.getD a 0#64)) ∧ szG (dNode ws l a) = szX (ws.getD a 0#64) ∧ ckNode l.length (dNode ws l a) = 0 := by
  obtain ⟨_, hP, hB, hs, _, hroom⟩ := head_of hg
  obtain ⟨g1, g2, _⟩ := goodX_out hg
  obtain ⟨P, N, e1, e2, e3, _, _, _, _⟩ := head_nums g1 g2
  obtain ⟨x, hx⟩ : ∃ x, x = ws.getD a 0#64 := ⟨_, rfl⟩
  have hpk : packH (P0 x : Int) (B0 x : Int) false 0 = x := by
    have h := eq_of_beq (okU_yes g1).2
    rw [g2, e3, e1, e2] at h
    rw [hx]
    unfold P0 B0
    rw [e1, e2]
    exact h
  unfold wellN at hw
  rw [Bool.and_eq_true] at hw
  obtain ⟨w1, w2⟩ := hw
  rw [← hx] at hP hB hs hroom w1 ⊢
  have hpt : ∀ k, k < P0 x → (ws.getD (a + 1 + k) 0#64).toNat = 0 ∨ (1 ≤ (ws.getD (a + 1 + k) 0#64).toNat ∧ (ws.getD (a + 1 + k) 0#64).toNat - 1 ∈ l) := fun k hk => by
    have h := List.all_eq_true.1 w1 k (List.mem_range.2 hk)
    unfold ptrN at h
    exact of_decide_eq_true h
  have hbl : (dNode ws l a).bs.length = B0 x := by unfold dNode bytesM; rw [← hx]; simp
  have hpl : (dNode ws l a).ps.length = P0 x := by unfold dNode; rw [← hx]; simp
  refine ⟨?_, ?_, ?_⟩
  · have hd : wordsW (dNode ws l a).bs = (ws.drop (a + 1 + P0 x)).take ((B0 x + 7) / 8) := by
      show wordsW (bytesM ws (8 * (a + 1 + P0 (ws.getD a 0#64)) + 0) (B0 (ws.getD a 0#64))) = _
      rw [← hx, Nat.add_zero]
      refine words_back (by omega) fun j h1 h2 => ?_
      unfold padN padB at w2
      rw [← hx] at w2
      have h3 := List.all_eq_true.1 w2 (byteAt ws (8 * (a + 1 + P0 x) + B0 x + (j - B0 x))) (by
        unfold bytesM
        exact List.mem_map.2 ⟨j - B0 x, List.mem_range.2 (by omega), rfl⟩)
      rw [show 8 * (a + 1 + P0 x) + B0 x + (j - B0 x) = 8 * (a + 1 + P0 x) + j from by omega] at h3
      exact eq_of_beq h3
    have hp : (dNode ws l a).ps.map (pointW l) = (ws.drop (a + 1)).take (P0 x) := by
      apply ext_getD 0#64
      · rw [List.length_map, hpl, slice_len _ _ _ (by omega)]
      · intro k hk
        rw [List.length_map, hpl] at hk
        rw [slice_getD _ _ _ _ _ hk, map_getD' _ _ _ (by rw [hpl]; exact hk)]
        have e : (dNode ws l a).ps[k]'(by rw [hpl]; exact hk) = numV l (((ws.getD (a + 1 + k) 0#64).toNat : Int) - 1) := by
          unfold dNode
          simp
        rw [e]
        exact (pt_back hr (hpt k hk)).1
    have hh : headW (dNode ws l a) = x := by unfold headW; rw [hpl, hbl]; exact hpk
    unfold nodeW
    rw [hh, hp, hd, hs, show 1 + P0 x + (B0 x + 7) / 8 = 1 + (P0 x + (B0 x + 7) / 8) from by omega, slice_app, slice_app]
    have e1 : (ws.drop a).take 1 = [x] := by
      apply ext_getD 0#64
      · rw [slice_len _ _ _ (by omega)]; rfl
      · intro i hi
        rw [slice_len _ _ _ (by omega)] at hi
        have : i = 0 := by omega
        subst this
        rw [slice_getD _ _ _ _ _ (by decide), hx]
        rfl
    rw [e1]
    rfl
  · unfold szG
    rw [hpl, hbl, hs]
  · unfold ckNode
    have hall : (dNode ws l a).ps.all (okP l.length) = true := by
      apply List.all_eq_true.2
      intro p hp
      have hp : p ∈ (List.range (P0 (ws.getD a 0#64))).map (fun k => numV l (((ws.getD (a + 1 + k) 0#64).toNat : Int) - 1)) := hp
      obtain ⟨k, hk, rfl⟩ := List.mem_map.1 hp
      rw [← hx] at hk
      exact (pt_back hr (hpt k (List.mem_range.1 hk))).2
    rw [if_pos hall, if_neg (by rw [hpl, hbl]; omega)]
theorem found_back {ws : List (BitVec 64)} {L : List Nat} (hr : L.Pairwise (· < ·)) (t : Nat) (ht : t ≤ ws.length) : ∀ (n a : Nat) (r : List Nat), foundN ws t n a = (r, none) → t < a + n → a ≤ t → (∀ y ∈ r, wellN ws L y = true) →
    placeL (r.map (dNode ws L)) a = r ∧ endL (r.map (dNode ws L)) a = t ∧ (r.map (dNode ws L)).flatMap (nodeW L) = (ws.drop a).take (t - a) ∧ ckNodes L.length (r.map (dNode ws L)) = 0
  | 0, a, r, h, h1, h2, _ => absurd h1 (by omega)
  | n + 1, a, r, h, h1, h2, hw => by
    unfold foundN at h
    by_cases hlt : a < t
    · rw [if_pos hlt] at h
      by_cases hg : goodX (ws.getD a 0#64) (t - a) = true
      · rw [if_pos hg] at h
        injection h with e1 e2
        subst e1
        obtain ⟨_, _, _, hs, _, hroom⟩ := head_of hg
        obtain ⟨n1, n2, n3⟩ := node_back hr hg (by omega) (hw a (List.mem_cons_self ..))
        obtain ⟨i1, i2, i3, i4⟩ := found_back hr t ht n (a + szX (ws.getD a 0#64)) (foundN ws t n (a + szX (ws.getD a 0#64))).1 (by rw [← e2]) (by omega) (by omega) (fun y hy => hw y (List.mem_cons_of_mem _ hy))
        rw [List.map_cons]
        refine ⟨?_, ?_, ?_, ?_⟩
        · unfold placeL; rw [n2, i1]
        · unfold endL; rw [n2, i2]
        · rw [List.flatMap_cons, n1, i3, show t - a = szX (ws.getD a 0#64) + (t - (a + szX (ws.getD a 0#64))) from by omega, slice_app]
        · unfold ckNodes; rw [if_pos n3, i4]
      · rw [if_neg hg] at h
        injection h with _ e2
        cases e2
    · rw [if_neg hlt] at h
      injection h with e1 _
      subst e1
      have : a = t := by omega
      subst this
      exact ⟨rfl, rfl, by rw [Nat.sub_self, List.take_zero]; rfl, rfl⟩
theorem bits_strB (bs : Nm) : bitsOf (strB bs) = bs := by
  unfold bitsOf strB strL
  show ((bs.map UInt8.ofBitVec).toArray.toList).map UInt8.toBitVec = bs
  rw [List.map_map, show (UInt8.toBitVec ∘ UInt8.ofBitVec) = id from rfl, List.map_id]
theorem index_no : ∀ l : List UInt8, (∀ b ∈ l, b ≠ 0) → Lib.indexByte l 0 = -1
  | [], _ => rfl
  | x :: l, h => by
    have e : Lib.indexByte (x :: l) 0 = if (x == 0) = true then 0 else if (Lib.indexByte l 0 == -1) = true then -1 else Lib.indexByte l 0 + 1 := rfl
    rw [e, if_neg (by intro e0; exact h x (List.mem_cons_self ..) (eq_of_beq e0)), index_no l (fun b hb => h b (List.mem_cons_of_mem _ hb))]
    rfl
theorem goodS_of {bs : Nm} (h : goodN bs) : goodS (strB bs) = true := by
  have hl : (strB bs).size = bs.length := by rw [← bitsOf_len, bits_strB]
  unfold goodS
  rw [hl, decide_eq_true h.1, decide_eq_true h.2.1, index_no _ (fun b hb e => ?_)]
  · rfl
  · have hb : b ∈ strL bs := by simpa [strB] using hb
    unfold strL at hb
    obtain ⟨x, hx, rfl⟩ := List.mem_map.1 hb
    exact h.2.2 x hx (congrArg UInt8.toBitVec e)
theorem root_back {ws : List (BitVec 64)} {l : List Nat} {i : Nat} (hr : l.Pairwise (· < ·)) (hb : ∀ y ∈ l, y < 8192) (hl : 2 + 5 * i + 5 ≤ ws.length) (hn : nmOk (nmAt ws i) = true) (hld : leadB ws l (2 + 5 * i + 4) = true) :
    rootW l (dRoot ws l i) = (ws.drop (2 + 5 * i)).take 5 ∧ goodS (dRoot ws l i).s = true ∧ okP l.length (dRoot ws l i).t = true := by
  obtain ⟨k1, k2⟩ := of_decide_eq_true hn
  have hw := of_decide_eq_true hld
  have hs : (ws.getD (2 + 5 * i + 4) 0#64).toNat ≤ 8192 := by
    rcases hw with h | ⟨_, h⟩
    · omega
    · have := hb _ h; omega
  have ht : (dRoot ws l i).t = numV l (((ws.getD (2 + 5 * i + 4) 0#64).toNat : Int) - 1) := by
    show numV l (rtI (ws.getD (2 + 5 * i + 4) 0#64)) = _
    rw [rtI_small hs]
  obtain ⟨p1, p2⟩ := pt_back hr hw
  have hnm : nameW (dRoot ws l i).s = nmAt ws i := by
    rw [nameW_pad]
    show padNm (bitsOf (strB (cutN (nmAt ws i)))) = _
    rw [bits_strB]
    exact k2
  refine ⟨?_, goodS_of k1, by rw [ht]; exact p2⟩
  unfold rootW
  rw [hnm, ht, p1]
  have h4 : wordsW (nmAt ws i) = (ws.drop (2 + 5 * i)).take 4 := words_back (n := 32) (by omega) (fun j h1 h2 => by omega)
  rw [h4, show (5 : Nat) = 4 + 1 from rfl, slice_app]
  congr 1
  apply ext_getD 0#64
  · rw [slice_len _ _ _ (by omega)]; rfl
  · intro j hj
    have : j = 0 := by simpa using hj
    subst this
    rw [slice_getD _ _ _ _ _ (by decide)]
    rfl
def rtsL (ws : List (BitVec 64)) (l : List Nat) : Nat → Nat → List Rv
  | 0, _ => []
  | n + 1, i => dRoot ws l i :: rtsL ws l n (i + 1)
theorem rtsL_len (ws : List (BitVec 64)) (l : List Nat) : ∀ n i, (rtsL ws l n i).length = n
  | 0, _ => rfl
  | n + 1, i => by unfold rtsL; rw [List.length_cons, rtsL_len ws l n]
theorem roots_back {ws : List (BitVec 64)} {l : List Nat} (hr : l.Pairwise (· < ·)) (hb : ∀ y ∈ l, y < 8192) : ∀ (n i : Nat) (ab : ByteArray), 2 + 5 * (i + n) ≤ ws.length → rootF ws l n i ab = [] → (rtsL ws l n i).flatMap (rootW l) = (ws.drop (2 + 5 * i)).take (5 * n) ∧ ckRoots l.length ab (rtsL ws l n i) = 0
  | 0, i, ab, _, _ => ⟨rfl, rfl⟩
  | n + 1, i, ab, hl, h => by
    unfold rootF rootE at h
    obtain ⟨h1, h2⟩ := List.append_eq_nil_iff.1 h
    obtain ⟨h3, h4⟩ := List.append_eq_nil_iff.1 h1
    have hld : leadB ws l (2 + 5 * i + 4) = true := by
      by_cases hh : leadB ws l (2 + 5 * i + 4) = true
      · exact hh
      · rw [if_neg hh] at h4; cases h4
    have hnn : nmOk (nmAt ws i) = true ∧ lessS (nmS ws i) ab = false := by
      by_cases hh : nmOk (nmAt ws i) = true ∧ lessS (nmS ws i) ab = false
      · exact hh
      · rw [if_neg hh] at h3; cases h3
    rw [if_pos hnn.1] at h2
    obtain ⟨b1, b2, b3⟩ := root_back hr hb (by omega) hnn.1 hld
    obtain ⟨i1, i2⟩ := roots_back hr hb n (i + 1) (nmS ws i) (by omega) h2
    unfold rtsL
    constructor
    · rw [List.flatMap_cons, b1, i1, show 5 * (n + 1) = 5 + 5 * n from by omega, slice_app, show 2 + 5 * (i + 1) = 2 + 5 * i + 5 from by omega]
    · unfold ckRoots
      rw [if_pos ⟨b2, hnn.2⟩, if_pos b3]
      exact i2
theorem field_nT (x : BitVec 64) (h : U64 (fieldB x 48 16) = 0) : U64 (fieldB x 16 32) = ((x.toNat / 65536 : Nat) : Int) ∧ x.toNat < 281474976710656 := by
  have e1 : (fieldB x 48 16).toNat = x.toNat / 281474976710656 := by
    have e : lowB 16 = 65535#64 := by decide
    unfold fieldB
    rw [if_pos (by decide), e]
    show (x >>> 48 &&& 65535#64).toNat = _
    rw [BitVec.toNat_and, BitVec.toNat_ushiftRight]
    show (x.toNat >>> 48) &&& (2 ^ 16 - 1) = _
    rw [Nat.and_two_pow_sub_one_eq_mod, Nat.shiftRight_eq_div_pow]
    have := x.isLt
    omega
  have h0 : (fieldB x 48 16).toNat = 0 := by unfold U64 at h; exact Int.ofNat.inj h
  have hlt : x.toNat < 281474976710656 := by omega
  refine ⟨?_, hlt⟩
  have e2 : (fieldB x 16 32).toNat = x.toNat / 65536 := by
    have e : lowB 32 = 4294967295#64 := by decide
    unfold fieldB
    rw [if_pos (by decide), e]
    show (x >>> 16 &&& 4294967295#64).toNat = _
    rw [BitVec.toNat_and, BitVec.toNat_ushiftRight]
    show (x.toNat >>> 16) &&& (2 ^ 32 - 1) = _
    rw [Nat.and_two_pow_sub_one_eq_mod, Nat.shiftRight_eq_div_pow]
    omega
  unfold U64
  rw [e2]
theorem img_back {ws : List (BitVec 64)} (h8 : ws.length ≤ 8192) (h : imgF ws = []) : ∃ g : Gv, ckG g = 0 ∧ endL g.n (2 + 5 * g.r.length) ≤ 8192 ∧ encW g.n g.r = ws := by
  unfold imgF at h
  obtain ⟨hm, hi⟩ := List.append_eq_nil_iff.1 h
  have hok : szOk ws = true := by
    by_cases hh : szOk ws = true
    · exact hh
    · rw [if_neg hh] at hi; cases hi
  rw [if_pos hok] at hi
  obtain ⟨s1, s2, s3, s4, s5⟩ := of_decide_eq_true hok
  have hmg : ws.getD 0 0#64 = 1296125772#64 := by
    unfold magF at hm
    by_cases hh : ws.length = 0 ∨ ws.getD 0 0#64 ≠ 1296125772#64
    · rw [if_pos hh] at hm; cases hm
    · exact Classical.byContradiction fun h2 => hh (.inr h2)
  obtain ⟨R, hR⟩ : ∃ R, R = nRt ws := ⟨_, rfl⟩
  rw [← hR] at hi s4 s5
  unfold insF at hi
  obtain ⟨F, hF⟩ : ∃ F, F = foundN ws ws.length (ws.length + 1) (2 + 5 * R) := ⟨_, rfl⟩
  rw [← hF] at hi
  obtain ⟨hi, hrt⟩ := List.append_eq_nil_iff.1 hi
  obtain ⟨hbd, hal⟩ := List.append_eq_nil_iff.1 hi
  obtain ⟨l, bd⟩ := F
  have hbn : bd = none := by
    cases bd with
    | none => rfl
    | some y => cases hbd
  subst hbn
  simp only at hal hrt
  have hrise := objF_rise ws ws.length _ _ l (objF_of _ _ _ _ _ hF.symm)
  have hb : ∀ y ∈ l, y < 8192 := fun y hy => by
    obtain ⟨_, h2, _⟩ := found_good ws ws.length (ws.length + 1) (2 + 5 * R) y (by rw [← hF]; exact hy)
    omega
  obtain ⟨f1, f2, f3, f4⟩ := found_back hrise ws.length (Nat.le_refl _) (ws.length + 1) (2 + 5 * R) l hF.symm (by omega) s5 (fun y hy => List.all_eq_true.1 ((allE_nil _ _ _).1 hal) y hy)
  obtain ⟨r1, r2⟩ := roots_back hrise hb R 0 ⟨#[]⟩ (by omega) hrt
  have hrl := rtsL_len ws l R 0
  refine ⟨⟨none, 0, none, 0, l.map (dNode ws l), rtsL ws l R 0⟩, ?_, ?_, ?_⟩
  · unfold ckG
    simp only [List.length_map]
    rw [if_pos f4, if_neg (by rw [hrl]; omega)]
    exact r2
  · show endL (l.map (dNode ws l)) (2 + 5 * (rtsL ws l R 0).length) ≤ 8192
    rw [hrl, f2]
    exact h8
  · show encW (l.map (dNode ws l)) (rtsL ws l R 0) = ws
    unfold encW
    rw [hrl, f1, f2, f3, r1]
    obtain ⟨t1, t2⟩ := field_nT _ s2
    have hfr : frontW R ws.length = (ws.drop 0).take 2 := by
      have h1 : ws.getD 1 0#64 = BitVec.ofNat 64 (R + ws.length * 65536) := by
        apply BitVec.eq_of_toNat_eq
        rw [BitVec.toNat_ofNat]
        have h2 : R = (ws.getD 1 0#64).toNat % 65536 := hR
        have h3 : (((ws.getD 1 0#64).toNat / 65536 : Nat) : Int) = (ws.length : Int) := by rw [← t1]; exact s3
        rw [Nat.mod_eq_of_lt (by omega)]
        omega
      apply ext_getD 0#64
      · rw [slice_len _ _ _ (by omega)]; rfl
      · intro i hi
        have hi : i < 2 := hi
        rw [slice_getD _ _ _ _ _ hi, Nat.zero_add]
        rcases (show i = 0 ∨ i = 1 by omega) with rfl | rfl
        · exact hmg.symm
        · exact h1.symm
    rw [hfr, show (2 + 5 * 0 : Nat) = 0 + 2 from rfl, ← slice_app, List.drop_zero, List.take_of_length_le (l := ws.drop (2 + 5 * R)) (by rw [List.length_drop]; exact Nat.le_refl _), List.take_append_drop]
theorem img_enc {g : Gv} (h : ckG g = 0) (ht : endL g.n (2 + 5 * g.r.length) ≤ 8192) : imgF (encW g.n g.r) = [] := by
  obtain ⟨h1, h2, h3⟩ := ckG_ok h
  have hlen := encW_len g.n g.r (fun r hr => (goodS_size (h3 r hr).1).2)
  have hge := endL_ge g.n (2 + 5 * g.r.length)
  obtain ⟨i1, i2⟩ := ins_nil h ht
  have e0 : (encW g.n g.r).getD 0 0#64 = 1296125772#64 := rfl
  have e1 : (encW g.n g.r).getD 1 0#64 = BitVec.ofNat 64 (g.r.length + endL g.n (2 + 5 * g.r.length) * 65536) := rfl
  have hR : nRt (encW g.n g.r) = g.r.length := by
    unfold nRt
    rw [e1, BitVec.toNat_ofNat]
    omega
  have hok : szOk (encW g.n g.r) = true := by
    refine decide_eq_true ⟨by omega, ?_, ?_, by rw [hR]; exact h2, by rw [hR]; omega⟩
    · rw [e1]; exact field_hi _ (by omega)
    · rw [e1, hlen]; exact field_mid _ _ (by omega) (by omega)
  unfold imgF magF
  rw [if_pos hok, hR, i2, if_neg (by rintro (h | h); exact absurd h (by omega); exact h e0)]
  rfl
theorem bad_img {ws : List (BitVec 64)} (h8 : ws.length ≤ 8192) (h : BadW ws) : imgF ws ≠ [] := fun e => by
  obtain ⟨g, g1, g2, g3⟩ := img_back h8 e
  exact h g g1 g2 g3
end Go.Proofs.Ytkkjnahjmomjgaa
/- loamref17.Decode of an image's words. Conditions: nothing is wrong of them. -/
namespace Go.Proofs.Ytkkjnahjmomjgaa
set_option linter.unusedVariables false
set_option linter.unusedSimpArgs false
open Go.RowKit Go.Maps
set_option maxHeartbeats 8000000
set_option maxRecDepth 100000
theorem rootF_all (ws : List (BitVec 64)) (p : List Nat) : ∀ (n i : Nat) (ab : ByteArray), rootF ws p n i ab = [] → ∀ j, i ≤ j → j < i + n → nmOk (nmAt ws j) = true ∧ leadB ws p (2 + 5 * j + 4) = true
  | 0, i, ab, _, j, h1, h2 => absurd h2 (by omega)
  | n + 1, i, ab, h, j, h1, h2 => by
    unfold rootF rootE at h
    obtain ⟨a1, a2⟩ := List.append_eq_nil_iff.1 h
    obtain ⟨a3, a4⟩ := List.append_eq_nil_iff.1 a1
    by_cases e : j = i
    · subst e
      constructor
      · by_cases hh : nmOk (nmAt ws j) = true ∧ lessS (nmS ws j) ab = false
        · exact hh.1
        · rw [if_neg hh] at a3; cases a3
      · by_cases hh : leadB ws p (2 + 5 * j + 4) = true
        · exact hh
        · rw [if_neg hh] at a4; cases a4
    · exact rootF_all ws p n (i + 1) _ a2 j (by omega) (by omega)
/-- What words have of which nothing is wrong. -/
structure ImOk (ws : List (BitVec 64)) (l : List Nat) : Prop where
  two : 2 ≤ ws.length
  r64 : nRt ws ≤ 64
  front : 2 + 5 * nRt ws ≤ ws.length
  fnd : foundN ws ws.length (ws.length + 1) (2 + 5 * nRt ws) = (l, none)
  well : ∀ y ∈ l, wellN ws l y = true
  rise : l.Pairwise (· < ·)
  good : ∀ y ∈ l, 2 + 5 * nRt ws ≤ y ∧ y < ws.length ∧ goodX (ws.getD y 0#64) (ws.length - y) = true
  roots : ∀ j, j < nRt ws → nmOk (nmAt ws j) = true ∧ leadB ws l (2 + 5 * j + 4) = true
  len : l.length ≤ ws.length
theorem img_ok {ws : List (BitVec 64)} (h : imgF ws = []) : ∃ l, ImOk ws l := by
  unfold imgF at h
  obtain ⟨hm, hi⟩ := List.append_eq_nil_iff.1 h
  have hok : szOk ws = true := by
    by_cases hh : szOk ws = true
    · exact hh
    · rw [if_neg hh] at hi; cases hi
  rw [if_pos hok] at hi
  obtain ⟨s1, s2, s3, s4, s5⟩ := of_decide_eq_true hok
  unfold insF at hi
  obtain ⟨F, hF⟩ : ∃ F, F = foundN ws ws.length (ws.length + 1) (2 + 5 * nRt ws) := ⟨_, rfl⟩
  rw [← hF] at hi
  obtain ⟨hi, hrt⟩ := List.append_eq_nil_iff.1 hi
  obtain ⟨hbd, hal⟩ := List.append_eq_nil_iff.1 hi
  obtain ⟨l, bd⟩ := F
  have hbn : bd = none := by
    cases bd with
    | none => rfl
    | some y => cases hbd
  subst hbn
  simp only at hal hrt
  have hl := found_len ws ws.length (ws.length + 1) (2 + 5 * nRt ws)
  rw [← hF] at hl
  have hl : l.length ≤ ws.length - (2 + 5 * nRt ws) := hl
  exact ⟨l, s1, s4, s5, hF.symm, fun y hy => List.all_eq_true.1 ((allE_nil _ _ _).1 hal) y hy, objF_rise ws ws.length _ _ l (objF_of _ _ _ _ _ hF.symm), fun y hy => found_good ws ws.length (ws.length + 1) (2 + 5 * nRt ws) y (by rw [← hF]; exact hy), fun j hj => rootF_all ws l _ 0 _ hrt j (Nat.zero_le _) (by omega), by omega⟩
def RDecP (ws : List (BitVec 64)) (l : List Nat) (w : World) (r : Ending) (w' : World) : Prop := ∃ g : Gv, r = .returned (.tuple #[g.v, .int .i64 0]) ∧ g.At w' w'.heap.size ∧ g.n.map normN = l.map (dNode ws l) ∧ g.r = (List.range (nRt ws)).map (dRoot ws l) ∧ Below w.heap.size w w'
/-- The nodes told so far, in their box. -/
def NsP (w5 : World) (ws : List (BitVec 64)) (l : List Nat) (Gb i : Nat) (W : World) : Prop := ∃ nA nN nc xs, Bk W Gb 31 #[.slice nA nN nc, .slice none 0 0] ∧ NOwn7 W w5.heap.size (.slice nA nN nc) xs ∧ nN = xs.length ∧ xs.map normN = (l.take i).map (dNode ws l) ∧ Kept (fun k => k = Gb) w5 W
/-- The roots told so far, in the graph's box. -/
def RsP (wS : World) (ws : List (BitVec 64)) (l : List Nat) (Gb : Nat) (nv : Value) (i : Nat) (W : World) : Prop := ∃ rA rN rc rs, Bk W Gb 31 #[nv, .slice rA rN rc] ∧ ROwn7 W wS.heap.size (.slice rA rN rc) rs ∧ rN = rs.length ∧ rs = (List.range i).map (dRoot ws l) ∧ Kept (fun k => k = Gb) wS W
theorem kept_gr {a b : World} {q : Nat} (h : Kept (fun b => b = q) a b) : a.grownBy b (some q) := ⟨h.os, h.tape, h.output, h.size, fun k hk hn => h.block k hk (fun e => hn (by rw [e]))⟩
theorem rd1_of {w : World} {q : Nat} {z : Int} (hb : Bk w q 3 #[.int .i64 z]) : Rd iV w w.heap.size (some ⟨q, 0, none⟩) [z] := fun j hj => by
  have : j = 0 := by simpa using hj
  subst this
  refine ⟨⟨q, 0, none⟩, rfl, hb.lt, ?_⟩
  rw [addr_at]
  exact hb.cell 0
def numP (ws : List (BitVec 64)) (l : List Nat) (a j : Nat) : Int := numV l (((ws.getD (a + 1 + j) 0#64).toNat : Int) - 1)
/-- A node's pointers told so far. -/
def PsP (wr : World) (ws : List (BitVec 64)) (l : List Nat) (Xb Hb a P nb : Nat) (dv : Value) (ys : List (BitVec 8)) (k : Nat) (W : World) : Prop := ∃ pA pN pc ps, Bk W Xb 58 #[.slice pA pN pc, dv] ∧ Ow iV 3 W wr.heap.size (.slice pA pN pc) ps ∧ pN = ps.length ∧ ps = (List.range k).map (numP ws l a) ∧ Ow b8 5 W wr.heap.size dv ys ∧ Bk W Hb 81 #[.int .i64 (P : Int), .int .i64 (nb : Int), .bool false, .int .i64 0] ∧ Below wr.heap.size wr W ∧ (∀ j, (Value.slice pA pN pc).ownBlock = some j → j ≠ Xb ∧ j ≠ Hb ∧ dv.ownBlock ≠ some j) ∧ (∀ j, dv.ownBlock = some j → j ≠ Xb)
theorem rdecode_c (w : World) (ad : Addr) (c : Nat) (ws : List (BitVec 64)) (hr : Rd u64v w w.heap.size (some ad) ws) (h8 : ws.length ≤ 8192) (hi : imgF ws = []) (l : List Nat) (hk : ImOk ws l) :
    Calls Try.prog 18 #[.slice (some ad) ws.length c] w (RDecP ws l w) := by
  obtain ⟨E, hE⟩ : ∃ E, E = RDecP ws l w := ⟨_, rfl⟩
  rw [← hE]
  have HE := Lib.hid hE
  have HIm := Lib.hid (fun W (b : Below w.heap.size w W) => show Calls Try.prog 43 #[.slice (some ad) ws.length c] W (RiP [] W) from by
    have h := rimageG_c W (some ad) c ws ((hr.below b).more b.size) h8 (by rw [hi]; exact Nat.zero_le _)
    rwa [hi] at h)
  obtain ⟨R, hR⟩ : ∃ R, R = nRt ws := ⟨_, rfl⟩
  obtain ⟨bb, hbb⟩ : ∃ bb, bb = 2 + 5 * R := ⟨_, rfl⟩
  have hR64 : R ≤ 64 := by rw [hR]; exact hk.r64
  have HFd := Lib.hid (fun W (b : Below w.heap.size w W) => show Calls Try.prog 45 #[.slice (some ad) ws.length c, .int .i64 (bb : Int), .int .i64 (ws.length : Int)] W (fun r w' => ∃ A' c', r = .returned (.tuple #[.slice A' l.length c', .int .i64 (-1)]) ∧ Ow iN 3 w' W.heap.size (.slice A' l.length c') l ∧ Below W.heap.size W w') from by
    rw [hbb, hR]
    exact rfoundG_c W (some ad) c ws _ ws.length (l, none) ((hr.below b).more b.size) hk.front (Nat.le_refl _) h8 hk.fnd)
  have HBy := Lib.hid (fun W (b : Below w.heap.size w W) (B j k : Nat) (hB : B ≤ W.heap.size) (hj : j + k ≤ 8 * ws.length) => bs_call (c := c) hB ((hr.below b).more b.size) hj h8)
  have HNm := Lib.hid (fun W (b : Below w.heap.size w W) (a : Nat) (ha : a + 4 ≤ ws.length) => rname_c W (some ad) c ws ((hr.below b).more b.size) h8 a ha)
  obtain ⟨x1, hx1⟩ : ∃ x, x = ws.getD 1 0#64 := ⟨_, rfl⟩
  have hG1 : w.cell? ⟨ad.block, ad.off + 1, none⟩ = some (.int .u64 (U64 x1)) ∧ ad.block < w.heap.size := by
    obtain ⟨ad', had', hl', g1⟩ := hr 1 (by have := hk.two; omega)
    injection had' with had'
    subst had'
    have e1 : ws.getD 1 0#64 = ws[1]'(by have := hk.two; omega) := by rw [List.getD_eq_getElem?_getD, List.getElem?_eq_getElem (by have := hk.two; omega)]; rfl
    rw [hx1, e1]
    exact ⟨g1, hl'⟩
  have h016 : U64 (fieldB x1 0 16) = (R : Int) := by rw [field_nR, hR, hx1]; rfl
  obtain ⟨n, hn⟩ : ∃ n, n = ws.length := ⟨_, rfl⟩
  obtain ⟨M, hM⟩ : ∃ M, M = l.length := ⟨_, rfl⟩
  have HX := Lib.hid (And.intro hr (And.intro h8 (And.intro hk (And.intro hR (And.intro hbb (And.intro hn (And.intro hM hG1)))))))
  have nI : (n : Int) ≤ 8192 := by omega
  have n2 : (1 : Int) < (n : Int) := by have := hk.two; omega
  have MI : (M : Int) ≤ 8192 := by have := hk.len; omega
  have r1 : (R : Int) ≤ 64 := by omega
  have r0 : (0 : Int) ≤ (R : Int) := by omega
  have bI : (bb : Int) ≤ 8192 := by omega
  have kbb : 2 + 5 * (R : Int) = (bb : Int) := by omega
  rw [← hn] at HIm HFd HBy HNm ⊢
  rw [← hM] at HFd
  have H016 := Lib.hid h016
  clear hr h8 hi hk hR hbb hn hM hE hx1 hG1 hR64 h016
  go_enter Try.func18, Try.ntmps18
  go_wp2_with fail
  obtain ⟨Rb, hRb⟩ : ∃ R, R = w.heap.size := ⟨_, rfl⟩
  obtain ⟨w1, hw1⟩ : ∃ W, W = w.alloc (.cells #[.slice none 0 0, .slice none 0 0] 31) := ⟨_, rfl⟩
  have hbk : Bk w1 Rb 31 #[.slice none 0 0, .slice none 0 0] := by rw [hw1, hRb]; exact Bk.new w _ _
  have b1 : Below w.heap.size w w1 := by rw [hw1]; exact Gw.alloc w _
  rw [← hw1, ← hRb]
  have HFr := Lib.hid (Nat.le_of_eq hRb.symm)
  have H1 := Lib.hid (And.intro hbk b1)
  clear hw1 hRb hbk b1
  refine Calls.mono (HIm.out w1 H1.out.2) ?_
  rintro r w2 ⟨lv, rfl, hlv, b2⟩
  obtain ⟨A2, c2, e2, _⟩ := hlv.slice_
  replace e2 : lv = .slice A2 0 c2 := e2
  subst e2
  have H2 := Lib.hid (And.intro (H1.out.1.below b2 H1.out.1.lt) (H1.out.2.trans (b2.mono H1.out.2.size)))
  have g1 : w2.cell? ⟨ad.block, ad.off + 1, none⟩ = some (.int .u64 (U64 x1)) := (H2.out.2.cell (p := ⟨ad.block, ad.off + 1, none⟩) HX.out.2.2.2.2.2.2.2.2).trans HX.out.2.2.2.2.2.2.2.1
  have hq := Nat.lt_of_lt_of_le HX.out.2.2.2.2.2.2.2.2 H2.out.2.size
  clear hlv b2 H1 HIm
  go_wp2_with fail
  refine Calls.mono (of_ansk (rfield_c x1 0 16 (by decide) (by decide) w2)) ?_
  rintro r w3 ⟨u, rfl, b3, hu⟩
  unfold IsV at hu
  subst hu
  rw [H016.out]
  have H3 := Lib.hid (And.intro (H2.out.1.below b3 H2.out.1.lt) (H2.out.2.trans (b3.mono H2.out.2.size)))
  clear b3 g1 hq H2 H016
  go_wp2_with fail
  refine Calls.mono (HFd.out w3 H3.out.2) ?_
  rintro r w4 ⟨pA, pc, rfl, hp, b4⟩
  have H4 := Lib.hid (show Bk w4 Rb 31 #[.slice none 0 0, .slice none 0 0] ∧ Below w.heap.size w w4 ∧ Ow iN 3 w4 w3.heap.size (.slice pA M pc) l ∧ w.heap.size ≤ w3.heap.size from ⟨H3.out.1.below b4 H3.out.1.lt, H3.out.2.trans (b4.mono H3.out.2.size), hp, H3.out.2.size⟩)
  clear hp b4 H3 HFd
  go_wp2_with fail
  obtain ⟨Gb, hGb⟩ : ∃ G, G = w4.heap.size := ⟨_, rfl⟩
  obtain ⟨w5, hw5⟩ : ∃ W, W = w4.alloc (.cells #[.slice none 0 0, .slice none 0 0] 31) := ⟨_, rfl⟩
  have hbk : Bk w5 Gb 31 #[.slice none 0 0, .slice none 0 0] := by rw [hw5, hGb]; exact Bk.new w4 _ _
  have b45 : Below w4.heap.size w4 w5 := by rw [hw5]; exact Gw.alloc w4 _
  rw [← hw5, ← hGb]
  have H5 := Lib.hid (show Bk w5 Rb 31 #[.slice none 0 0, .slice none 0 0] ∧ Below w.heap.size w w5 ∧ Ow iN 3 w5 w.heap.size (.slice pA M pc) l ∧ Gb < w5.heap.size ∧ w.heap.size ≤ Gb ∧ Rb ≠ Gb ∧ (∀ k, (Value.slice pA M pc).ownBlock = some k → k ≠ Gb) from
    ⟨H4.out.1.below b45 H4.out.1.lt, H4.out.2.1.trans (b45.mono H4.out.2.1.size), ow_moreB (H4.out.2.2.1.below b45) H4.out.2.2.2, hbk.lt, by rw [hGb]; exact H4.out.2.1.size, by have := H4.out.1.lt; omega, fun k hk => by have := (World.ownsRow.lt H4.out.2.2.1 k hk).2; omega⟩)
  have HS0 : Hid (NsP w5 ws l Gb 0 w5) := Lib.hid ⟨none, 0, 0, [], hbk, NOwn7.nil _ _, rfl, rfl, Kept.refl _ _⟩
  clear hw5 hGb hbk b45 H4
  go_loopw [8] (fun x W => ∃ i : Nat, x = .int .i64 i ∧ i ≤ M ∧ Hid (NsP w5 ws l Gb i W)) (fun x _ => M - (Go.RowKit.intOf x).toNat)
  case atStart => exact ⟨0, rfl, Nat.zero_le _, HS0⟩
  case round =>
    obtain ⟨i, rfl, hi, hS⟩ := hrel
    clear HS0
    have i0 : (0 : Int) ≤ (i : Int) := by omega
    by_cases hlt : i < M
    · have i1 : (i : Int) < (M : Int) := by omega
      obtain ⟨nA, nN, nc, xs, s1, s2, s3, s4, s5⟩ := hS.out
      have bW : Below w.heap.size w wr := H5.out.2.1.trans (s5.below H5.out.2.1.size (fun k hk => by rw [hk]; exact H5.out.2.2.2.2.1))
      have hpo : Ow iN 3 wr w.heap.size (.slice pA l.length pc) l := by
        have h := s5.ow H5.out.2.2.1 (fun k hk => H5.out.2.2.2.2.2.2 k hk)
        rwa [HX.out.2.2.2.2.2.2.1] at h
      have hil : i < l.length := by have := HX.out.2.2.2.2.2.2.1; omega
      obtain ⟨a, ha⟩ : ∃ a, a = l[i] := ⟨_, rfl⟩
      obtain ⟨pd, rfl, hpl, hcp⟩ := hpo.rd i hil
      rw [← ha] at hcp
      unfold iN at hcp
      have hal0 : a ∈ l := by rw [ha]; exact List.getElem_mem _
      obtain ⟨q1, q2, hg⟩ := HX.out.2.2.1.good a hal0
      obtain ⟨x, hx⟩ : ∃ x, x = ws.getD a 0#64 := ⟨_, rfl⟩
      rw [← hx] at hg
      obtain ⟨hv, hP64, hB1024, hsx, _, hroom⟩ := head_of hg
      have HUn := Lib.hid (fun W => runpack_false x (goodX_out hg).2.1 W)
      rw [hv] at HUn
      obtain ⟨P, hP⟩ : ∃ P, P = P0 x := ⟨_, rfl⟩
      obtain ⟨nb, hnb⟩ : ∃ P, P = B0 x := ⟨_, rfl⟩
      rw [← hP] at HUn hP64 hsx
      rw [← hnb] at HUn hB1024 hsx
      obtain ⟨ad', had', hadl, hcw⟩ := HX.out.1 a q2
      injection had' with had'
      subst had'
      have hcx : wr.cell? (ad.add a) = some (.int .u64 (U64 x)) := by
        rw [bW.cell (p := ad.add a) (by rw [add_block]; exact hadl), hcw, hx, List.getD_eq_getElem?_getD, List.getElem?_eq_getElem q2]; rfl
      have q6 : (a : Int) < (n : Int) := by have := HX.out.2.2.2.2.2.1; omega
      have a0 : (0 : Int) ≤ (a : Int) := by omega
      have aI : (a : Int) ≤ 8192 := by have := HX.out.2.1; omega
      have PI : (P : Int) ≤ 64 := by omega
      have P00 : (0 : Int) ≤ (P : Int) := by omega
      have hcl : (pd.add i).block < wr.heap.size := by rw [add_block]; exact hpl
      have hal : (ad.add a).block < wr.heap.size := by rw [add_block]; exact Nat.lt_of_lt_of_le hadl bW.size
      have HCp := Lib.hid (fun W (b : Below wr.heap.size wr W) => show (pd.add i).block < W.heap.size ∧ W.cell? (pd.add i) = some (.int .i64 (a : Int)) from ⟨Nat.lt_of_lt_of_le hcl b.size, (b.cell (p := pd.add i) hcl).trans hcp⟩)
      have htk : l.take (i + 1) = l.take i ++ [a] := by rw [ha]; exact List.take_succ_eq_append_getElem hil
      have HI := Lib.hid (And.intro s1 (And.intro s2 (And.intro s3 (And.intro s4 (And.intro s5 (And.intro bW (And.intro hpo (And.intro hal0 (And.intro htk (And.intro hx (And.intro hP (And.intro hnb (And.intro hsx hroom)))))))))))))
      clear hS s1 s2 s3 s4 s5 hpo hil ha hal0 q1 q2 hg hv hP64 hB1024 hsx hroom hx hP hnb hcw hadl hpl htk hlt hi bW
      go_wp2_with fail
      refine Calls.mono (HUn.out wr) ?_
      rintro r w6 ⟨rfl, b6⟩
      have H6 := Lib.hid b6
      replace hcp := (b6.cell (p := pd.add i) hcl).trans hcp
      replace hcl := Nat.lt_of_lt_of_le hcl b6.size
      clear b6 hcx hal
      go_wp2_with fail
      obtain ⟨Hb, hHb⟩ : ∃ G, G = w6.heap.size := ⟨_, rfl⟩
      obtain ⟨w7, hw7⟩ : ∃ W, W = w6.alloc (.cells #[.int .i64 (P : Int), .int .i64 (nb : Int), .bool false, .int .i64 0] 81) := ⟨_, rfl⟩
      have hbk : Bk w7 Hb 81 #[.int .i64 (P : Int), .int .i64 (nb : Int), .bool false, .int .i64 0] := by rw [hw7, hHb]; exact Bk.new w6 _ _
      have b67 : Below w6.heap.size w6 w7 := by rw [hw7]; exact Gw.alloc w6 _
      rw [← hw7, ← hHb]
      have H7 := Lib.hid (show Bk w7 Hb 81 #[.int .i64 (P : Int), .int .i64 (nb : Int), .bool false, .int .i64 0] ∧ Below wr.heap.size wr w7 ∧ wr.heap.size ≤ Hb from ⟨hbk, H6.out.trans (b67.mono H6.out.size), by rw [hHb]; exact H6.out.size⟩)
      replace hcp := (b67.cell (p := pd.add i) hcl).trans hcp
      replace hcl := Nat.lt_of_lt_of_le hcl b67.size
      clear hw7 hHb hbk b67 H6 HUn
      obtain ⟨g0, g1, _, _⟩ := H7.out.1.four
      have hHl := H7.out.1.lt
      obtain ⟨J, hJ⟩ : ∃ J, J = 8 * (a + 1 + P) := ⟨_, rfl⟩
      have hJI : 8 * ((a : Int) + 1 + (P : Int)) = (J : Int) := by omega
      obtain ⟨ys, hys⟩ : ∃ y, y = bytesM ws J nb := ⟨_, rfl⟩
      have HBp := Lib.hid (fun W (b : Below w7.heap.size w7 W) => show Calls Try.prog 47 #[.slice (some ad) n c, .int .i64 (J : Int), .int .i64 (nb : Int)] W (fun e w2 => ∃ u, e = .returned u ∧ Below W.heap.size W w2 ∧ BsV ys w7.heap.size u w2) from by
        rw [hys]
        exact HBy.out W (HI.out.2.2.2.2.2.1.trans ((H7.out.2.1.trans (b.mono H7.out.2.1.size)).mono HI.out.2.2.2.2.2.1.size)) w7.heap.size J nb b.size (by
          obtain ⟨_, _, _, _, _, _, _, _, _, _, _, _, h1, h2⟩ := HI.out
          have := HX.out.2.2.2.2.2.1
          have : a < ws.length := by omega
          omega))
      have HJ := Lib.hid (And.intro hJ hys)
      clear hJ hys
      refine rd10 _ _ _ i a n Hb P nb J M ad pd c pc ys hcl hcp hHl g0 g1 i0 i1 a0 aI PI P00 hJI HBp rfl ?_ ?_ ?_ ?_ ?_
      · rfl
      · rfl
      · rfl
      · rfl
      intro vals w8 hG h72 h11
      obtain ⟨dA, dc, h72, hdo⟩ := h72
      obtain ⟨Xb, h11, hXb, hXk⟩ := h11
      simp only [putD, Act.put, List.setIfInBounds_toArray, List.set_cons_zero, List.set_cons_succ, h72, h11]
      obtain ⟨dN, hdN⟩ : ∃ z, z = ys.length := ⟨_, rfl⟩
      rw [← hdN] at hdo ⊢
      have H8 := Lib.hid (show Ow b8 5 w8 w7.heap.size (.slice dA dN dc) ys ∧ Bk w8 Xb 58 #[.slice none 0 0, .slice none 0 0] ∧ w7.heap.size ≤ Xb ∧ Below wr.heap.size wr w8 ∧ Bk w8 Hb 81 #[.int .i64 (P : Int), .int .i64 (nb : Int), .bool false, .int .i64 0] from ⟨hdo, hXk, hXb, H7.out.2.1.trans (hG.mono H7.out.2.1.size), H7.out.1.below hG H7.out.1.lt⟩)
      have HdN := Lib.hid hdN
      replace hcp := (hG.cell (p := pd.add i) hcl).trans hcp
      replace hcl := Nat.lt_of_lt_of_le hcl hG.size
      clear hdo hXb hXk hG h72 h11 HBp g0 g1 hHl hdN hJI
      obtain ⟨k0, k1⟩ := H8.out.2.1.two
      have hXl := H8.out.2.1.lt
      have hfr0 := H8.out.2.1.free 0
      have hfr1 := H8.out.2.1.free 1
      have hdx : ∀ j, (Value.slice dA dN dc).ownBlock = some j → j ≠ Xb := fun j hj e => by
        subst e
        rcases H8.out.1.2 with ⟨e1, _⟩ | ⟨g, cap, cur, e1, _, hh, _⟩
        · rw [e1] at hj; cases hj
        · rw [e1] at hj
          injection hj with hj
          subst hj
          have h2 := H8.out.2.1
          unfold Bk at h2
          rw [hh] at h2
          injection h2 with h2
          injection h2 with _ h2
          exact absurd h2 (by decide)
      go_wp2_with fail
      obtain ⟨w9, hw9⟩ : ∃ W, W = (w8.setCell ⟨Xb, 0, none⟩ (.slice none 0 0)).setCell ⟨Xb, 1, none⟩ (.slice dA dN dc) := ⟨_, rfl⟩
      have hK : Kept (fun k => k = Xb) w8 w9 := by rw [hw9]; exact (Kept.set w8 Xb 0 _).trans (Kept.set _ Xb 1 _)
      have hb9 : Bk w9 Xb 58 #[.slice none 0 0, .slice dA dN dc] := by rw [hw9]; exact two_set H8.out.2.1
      have hX7 : wr.heap.size ≤ Xb := Nat.le_trans H7.out.2.1.size H8.out.2.2.1
      have hHX : Hb ≠ Xb := by have := H7.out.1.lt; have := H8.out.2.2.1; omega
      rw [← hw9]
      have HS2 : Hid (PsP wr ws l Xb Hb a P nb (.slice dA dN dc) ys 0 w9) := Lib.hid ⟨none, 0, 0, [], hb9, Ow.nil_ _ _ _ _, rfl, rfl, hK.ow (ow_moreB H8.out.1 H7.out.2.1.size) hdx, hK.bk H8.out.2.2.2.2 hHX, H8.out.2.2.2.1.trans (hK.below H8.out.2.2.2.1.size (fun k hk => by rw [hk]; exact hX7)), fun j hj => (by cases hj), hdx⟩
      have HXX := Lib.hid (And.intro hX7 hHX)
      clear hw9 hK hb9 hX7 hHX hdx hXl hfr0 hfr1 k0 k1 H8 H7 hcp hcl
      obtain ⟨wo, hwo⟩ : ∃ x, x = wr := ⟨_, rfl⟩
      subst hwo
      go_loopw [12] (fun x W => ∃ k : Nat, x = .int .i64 k ∧ k ≤ P ∧ Hid (PsP wo ws l Xb Hb a P nb (.slice dA dN dc) ys k W)) (fun x _ => P - (Go.RowKit.intOf x).toNat)
      case atStart => exact ⟨0, rfl, Nat.zero_le _, HS2⟩
      case round =>
        obtain ⟨k, rfl, hk, hS⟩ := hrel
        clear HS2
        obtain ⟨pA, pN, ppc, ps, t1, t2, t3, t4, t5, t6, t7, t8, t9⟩ := hS.out
        have k00 : (0 : Int) ≤ (k : Int) := by omega
        obtain ⟨g0, g1, _, _⟩ := t6.four
        have hHl := t6.lt
        by_cases hkP : k < P
        · have kP : (k : Int) < (P : Int) := by omega
          have k64 : (k : Int) ≤ 64 := by omega
          obtain ⟨hcl, hcp⟩ := HCp.out wr t7
          obtain ⟨c0, c1⟩ := t1.two
          have hXl := t1.lt
          obtain ⟨q, hq⟩ : ∃ q, q = a + 1 + k := ⟨_, rfl⟩
          have hqI : (a : Int) + 1 + (k : Int) = (q : Int) := by omega
          have hql : q < ws.length := by
            obtain ⟨_, _, _, _, _, _, _, _, _, _, _, _, h1, h2⟩ := HI.out
            have := HX.out.2.2.2.2.2.1
            omega
          have qN : (q : Int) < (n : Int) := by have := HX.out.2.2.2.2.2.1; omega
          have q0 : (0 : Int) ≤ (q : Int) := by omega
          have bW := HI.out.2.2.2.2.2.1.trans (t7.mono HI.out.2.2.2.2.2.1.size)
          obtain ⟨ad', had', hadl, hcw⟩ := HX.out.1 q hql
          injection had' with had'
          subst had'
          obtain ⟨y, hy⟩ : ∃ y, y = ws[q] := ⟨_, rfl⟩
          rw [← hy] at hcw
          have hcq : wr.cell? (ad.add q) = some (.int .u64 (U64 y)) := (bW.cell (p := ad.add q) (by rw [add_block]; exact hadl)).trans hcw
          have hqb : (ad.add q).block < wr.heap.size := by rw [add_block]; exact Nat.lt_of_lt_of_le hadl bW.size
          have hye : ws.getD (a + 1 + k) 0#64 = y := by rw [← hq, hy, List.getD_eq_getElem?_getD, List.getElem?_eq_getElem hql]; rfl
          have hpt : y.toNat = 0 ∨ (1 ≤ y.toNat ∧ y.toNat - 1 ∈ l) := by
            have h := HX.out.2.2.1.well a HI.out.2.2.2.2.2.2.2.1
            unfold wellN at h
            rw [Bool.and_eq_true] at h
            have hP2 : P0 (ws.getD a 0#64) = P := by rw [← HI.out.2.2.2.2.2.2.2.2.2.1, ← HI.out.2.2.2.2.2.2.2.2.2.2.1]
            have h2 := List.all_eq_true.1 h.1 k (List.mem_range.2 (by rw [hP2]; exact hkP))
            unfold ptrN at h2
            rw [hye] at h2
            exact of_decide_eq_true h2
          obtain ⟨z, hz⟩ : ∃ z, z = numP ws l a k := ⟨_, rfl⟩
          have hzy : numV l ((y.toNat : Int) - 1) = z := by rw [hz]; unfold numP; rw [hye]
          have HNum := Lib.hid (fun W (b : Below wr.heap.size wr W) => show Calls Try.prog 48 #[.slice (some pd) M pc, .int .u64 (U64 y)] W (RetP (.int .i64 z) W) from by
            have h1 := HI.out.2.2.2.2.2.2.1.below (t7.trans (b.mono t7.size))
            rw [HX.out.2.2.2.2.2.2.1, ← hzy]
            exact number_c W (some pd) pc l h1.rd (by have := HX.out.2.2.1.len; have := HX.out.2.1; omega) (fun v hv => by have := (HX.out.2.2.1.good v hv).2.1; have := HX.out.2.1; omega) HX.out.2.2.1.rise y hpt)
          obtain ⟨yv, hyv⟩ : ∃ v, v = U64 y := ⟨_, rfl⟩
          rw [← hyv] at HNum hcq
          have HT := Lib.hid (And.intro t1 (And.intro t2 (And.intro t3 (And.intro t4 (And.intro t5 (And.intro t6 (And.intro t7 (And.intro t8 (And.intro t9 hz)))))))))
          clear hS t1 t2 t3 t4 t5 t6 t7 t8 t9 hq hql bW hadl hcw hy hye hpt hz hzy hyv hk hkP
          go_wp2_with fail
          refine rd14 _ _ _ i a k q n Xb M ad pd c pc (.slice pA pN ppc) yv z hcl hcp hXl c0 hqb hcq i0 i1 a0 aI k00 k64 hqI q0 qN HNum rfl ?_ ?_ ?_ ?_ ?_ ?_
          · rfl
          · rfl
          · rfl
          · rfl
          · rfl
          intro vals2 w10 hG h80 h93
          obtain ⟨qq, h93, hqq, hbq⟩ := h93
          unfold IsV at h80
          simp only [putD, Act.put, List.setIfInBounds_toArray, List.set_cons_zero, List.set_cons_succ, h80, h93]
          have hlen : ps.length + [z].length ≤ 4294967296 := by
            have h := HT.out.2.2.2.1
            have : ps.length = k := by rw [h, List.length_map, List.length_range]
            simp
            omega
          have hbw : wo.heap.size ≤ w10.heap.size := Nat.le_trans HT.out.2.2.2.2.2.2.1.size hG.size
          refine wp_app oneI iV_one rfl (.tmp 80) (.tmp 93) rfl wo.heap.size _ ps rfl (HT.out.2.1.below hG) (some ⟨qq, 0, none⟩) 1 1 [z] rfl rfl w10.heap.size (rd1_of hbq) hlen (by decide) hbw ?_
          intro v11 w11 ho hb hg hv
          obtain ⟨A11, c11, e11, _⟩ := ho.form
          obtain ⟨n11, hn11⟩ : ∃ m, m = (ps ++ [z]).length := ⟨_, rfl⟩
          rw [← hn11] at e11
          subst e11
          refine ⟨rfl, trivial, ?_⟩
          have hX10 := HT.out.1.below hG HT.out.1.lt
          have hX11 : Bk w11 Xb 58 #[.slice pA pN ppc, .slice dA dN dc] := (Kept.grown hg).bk hX10 (fun e => (HT.out.2.2.2.2.2.2.2.1 Xb e).1 rfl)
          have hvX : ∀ j, (Value.slice A11 n11 c11).ownBlock = some j → j ≠ Xb ∧ j ≠ Hb ∧ (Value.slice dA dN dc).ownBlock ≠ some j := fun j hj => by
            rcases hv with e | e
            · rw [e] at hj; exact HT.out.2.2.2.2.2.2.2.1 j hj
            · rw [e] at hj
              injection hj with hj
              have h1 := hX10.lt
              have h2 := (HT.out.2.2.2.2.2.1.below hG HT.out.2.2.2.2.2.1.lt).lt
              refine ⟨by omega, by omega, fun e2 => ?_⟩
              have h3 := (World.ownsRow.lt (HT.out.2.2.2.2.1.below hG) j e2).2
              omega
          have H11 := Lib.hid (And.intro ho (And.intro hX11 (And.intro hvX (And.intro hn11 (And.intro (show Below wo.heap.size wo w11 from (HT.out.2.2.2.2.2.2.1.trans (hG.mono HT.out.2.2.2.2.2.2.1.size)).trans hb) (show Ow b8 5 w11 wo.heap.size (.slice dA dN dc) ys ∧ Bk w11 Hb 81 #[.int .i64 (P : Int), .int .i64 (nb : Int), .bool false, .int .i64 0] from ⟨(Kept.grown hg).ow (HT.out.2.2.2.2.1.below hG) (fun j hj e => (HT.out.2.2.2.2.2.2.2.1 j e).2.2 hj), (Kept.grown hg).bk (HT.out.2.2.2.2.2.1.below hG HT.out.2.2.2.2.2.1.lt) (fun e => (HT.out.2.2.2.2.2.2.2.1 Hb e).2.1 rfl)⟩))))))
          clear ho hb hg hv hX10 hX11 hvX hn11 hG h80 h93 hbq hqq hcl hcp hXl c0 hcq hqb g0 g1 hHl hlen hbw
          obtain ⟨c0, c1⟩ := H11.out.2.1.two
          have hXl := H11.out.2.1.lt
          have hfr0 := H11.out.2.1.free 0
          have HN : Hid (PsP wo ws l Xb Hb a P nb (.slice dA dN dc) ys (k + 1) (w11.setCell ⟨Xb, 0, none⟩ (.slice A11 n11 c11))) := by
            obtain ⟨ho, hX11, hvX, hn11, hB, hd, hH⟩ := H11.out
            have hK := Kept.set w11 Xb 0 (.slice A11 n11 c11)
            have hbk := hX11.set 0 (.slice A11 n11 c11)
            refine Lib.hid ⟨A11, n11, c11, ps ++ [z], by simpa using hbk, hK.ow ho (fun j hj => (hvX j hj).1), hn11, ?_, hK.ow hd HT.out.2.2.2.2.2.2.2.2.1, hK.bk hH HXX.out.2, hB.trans (hK.below hB.size (fun j hj => by rw [hj]; exact HXX.out.1)), hvX, HT.out.2.2.2.2.2.2.2.2.1⟩
            rw [HT.out.2.2.2.1, HT.out.2.2.2.2.2.2.2.2.2, List.range_succ, List.map_append]
            rfl
          go_wp2_with fail
          refine ⟨rfl, trivial, ?_⟩
          clear H11 HT
          go_wp2_with fail
          go_roundw
          case rel => first | exact ⟨k + 1, by go_num, by omega, HN⟩ | ((repeat apply Exists.intro); refine ⟨?_, rfl⟩; exact ⟨k + 1, by go_num, by omega, HN⟩)
          case measure => simp [Go.RowKit.intOf]; omega
        · have kP : ¬ (k : Int) < (P : Int) := by omega
          have hkP2 : k = P := by omega
          subst hkP2
          obtain ⟨nd, hnd⟩ : ∃ nd : Nv, nd = ⟨pA, ppc, dA, dc, ps, ys⟩ := ⟨_, rfl⟩
          have hvp : nd.vp = .slice pA pN ppc := by rw [hnd, t3]; rfl
          have hvd : nd.vd = .slice dA dN dc := by rw [hnd, HdN.out]; rfl
          have hps : nd.ps = ps := by rw [hnd]
          have hys2 : nd.bs = ys := by rw [hnd]
          have hnm : normN nd = dNode ws l a := by
            rw [hnd]
            unfold normN dNode
            simp only
            rw [t4, HJ.out.2, HJ.out.1, ← HI.out.2.2.2.2.2.2.2.2.2.1, ← HI.out.2.2.2.2.2.2.2.2.2.2.1, ← HI.out.2.2.2.2.2.2.2.2.2.2.2.1]
            rfl
          obtain ⟨wA, hwA⟩ : ∃ W, W = wr.alloc (.cells #[.slice pA pN ppc, .slice dA dN dc] 58) := ⟨_, rfl⟩
          have bA : Below wr.heap.size wr wA := by rw [hwA]; exact Gw.alloc wr _
          have kA : Bk wA wr.heap.size 58 #[.slice pA pN ppc, .slice dA dN dc] := by rw [hwA]; exact Bk.new wr _ _
          have bo : Below wo.heap.size wo wA := t7.trans (bA.mono t7.size)
          have h5o : w5.heap.size ≤ wo.heap.size := HI.out.2.2.2.2.1.size
          have HApp := Lib.hid (show NOwn7 wo w5.heap.size (.slice nA nN nc) xs ∧ Below wo.heap.size wo wA ∧ (Ow iV 3 wA w5.heap.size nd.vp nd.ps ∧ Ow b8 5 wA w5.heap.size nd.vd nd.bs) ∧ ((∀ k, nd.vp.ownBlock = some k → wo.heap.size ≤ k) ∧ (∀ k, nd.vd.ownBlock = some k → wo.heap.size ≤ k) ∧ (∀ k, nd.vp.ownBlock = some k → nd.vd.ownBlock ≠ some k)) ∧ wA.cell? ⟨wr.heap.size, 0, none⟩ = some nd.vp ∧ wA.cell? ⟨wr.heap.size, 1, none⟩ = some nd.vd ∧ xs.length ≤ 100000 from by
            rw [hvp, hvd, hps, hys2]
            refine ⟨HI.out.2.1, bo, ⟨ow_moreB (t2.below bA) h5o, ow_moreB (t5.below bA) h5o⟩, ⟨fun j hj => (World.ownsRow.lt t2 j hj).1, fun j hj => (World.ownsRow.lt t5 j hj).1, fun j hj => (t8 j hj).2.2⟩, kA.cell 0, kA.cell 1, ?_⟩
            have h := congrArg List.length HI.out.2.2.2.1
            rw [List.length_map, List.length_map, List.length_take] at h
            have := HX.out.2.2.1.len
            have := HX.out.2.1
            omega)
          have gk : Bk wr Gb 31 #[.slice nA nN nc, .slice none 0 0] := HI.out.1.below t7 HI.out.1.lt
          have HB := Lib.hid (show Kept (fun k => k = Gb) w5 wA ∧ Bk wA Gb 31 #[.slice nA nN nc, .slice none 0 0] ∧ w5.heap.size ≤ wA.heap.size from ⟨HI.out.2.2.2.2.1.bel (bo.mono h5o), gk.below bA gk.lt, Nat.le_trans h5o bo.size⟩)
          have HNd := Lib.hid (And.intro hwA hnm)
          obtain ⟨c0, c1⟩ := t1.two
          have hXl := t1.lt
          obtain ⟨d0, d1⟩ := gk.two
          have hGl := gk.lt
          clear hS t1 t2 t3 t4 t5 t6 t7 t8 t9 hk hkP hnd hvp hvd hps hys2 hnm bA kA bo h5o gk hwA
          go_wp2_with (at_builtin; rw [← HNd.out.1]; refine wp_appN7 rfl (.tmp 97) (.tmp 99) rfl wo w5.heap.size _ xs nd rfl HApp.out.1 HApp.out.2.1 HApp.out.2.2.1 HApp.out.2.2.2.1 wr.heap.size 1 rfl HApp.out.2.2.2.2.1 HApp.out.2.2.2.2.2.1 HApp.out.2.2.2.2.2.2 HI.out.2.2.2.2.1.size ?_; intro v13 w13 ho13 hb13; obtain ⟨A13, c13, e13⟩ := nown_form7 ho13; obtain ⟨n13, hn13⟩ : ∃ m, m = (xs ++ [nd]).length := ⟨_, rfl⟩; rw [← hn13] at e13; subst e13; have gk13 : Bk w13 Gb 31 #[.slice nA nN nc, .slice none 0 0] := (HB.out.2.1).below (hb13.mono (Nat.le_refl _)) H5.out.2.2.2.1; have H13 := Lib.hid (And.intro ho13 (And.intro hb13 (And.intro hn13 gk13))); clear ho13 hb13 hn13 c0 c1 hXl d0 d1 hGl g0 g1 hHl; obtain ⟨d0, d1⟩ := gk13.two; have hGl := gk13.lt; have hfr0 := gk13.free 0; clear gk13)
          have HN : Hid (NsP w5 ws l Gb (i + 1) (w13.setCell ⟨Gb, 0, none⟩ (.slice A13 n13 c13))) := by
            obtain ⟨ho, hb, hn13, gk⟩ := H13.out
            have hbk := gk.set 0 (.slice A13 n13 c13)
            refine Lib.hid ⟨A13, n13, c13, xs ++ [nd], by simpa using hbk, ho.grown (kept_gr (Kept.set w13 Gb 0 _)) (fun hm => by have h1 := blks_ge7 ho Gb hm; have h2 := H5.out.2.2.2.1; omega), hn13, ?_, (HB.out.1.bel hb).trans (Kept.set w13 Gb 0 _)⟩
            rw [List.map_append, HI.out.2.2.2.1, HI.out.2.2.2.2.2.2.2.2.1, List.map_append]
            show _ ++ [normN nd] = _ ++ [dNode ws l a]
            rw [HNd.out.2]
          refine ⟨⟨i + 1, by go_num, by omega, HN⟩, ?_⟩
          simp [Go.RowKit.intOf]; omega
    · have i1 : ¬ (i : Int) < (M : Int) := by omega
      obtain ⟨nA, nN, nc, xs, s1, s2, s3, s4, s5⟩ := hS.out
      have htk : l.take i = l := List.take_of_length_le (by have := HX.out.2.2.2.2.2.2.1; omega)
      rw [htk] at s4
      obtain ⟨wS, hwS⟩ : ∃ x, x = wr := ⟨_, rfl⟩
      subst hwS
      have bS : Below w.heap.size w wS := H5.out.2.1.trans (s5.below H5.out.2.1.size (fun k hk => by rw [hk]; exact H5.out.2.2.2.2.1))
      have HSS := Lib.hid (show NOwn7 wS w5.heap.size (.slice nA nN nc) xs ∧ nN = xs.length ∧ xs.map normN = l.map (dNode ws l) ∧ Below w.heap.size w wS ∧ Ow iN 3 wS w.heap.size (.slice pA M pc) l ∧ Bk wS Rb 31 #[.slice none 0 0, .slice none 0 0] ∧ w5.heap.size ≤ wS.heap.size from ⟨s2, s3, s4, bS, s5.ow H5.out.2.2.1 (fun k hk => H5.out.2.2.2.2.2.2 k hk), s5.bk H5.out.1 H5.out.2.2.2.2.2.1, s5.size⟩)
      have HS3 : Hid (RsP wS ws l Gb (.slice nA nN nc) 0 wS) := Lib.hid ⟨none, 0, 0, [], s1, ROwn7.nil _ _, rfl, rfl, Kept.refl _ _⟩
      clear hS s1 s2 s3 s4 s5 htk bS hlt hi
      go_wp2_with fail
      clear i1 i0
      go_loopw [13] (fun x W => ∃ i : Nat, x = .int .i64 i ∧ i ≤ R ∧ Hid (RsP wS ws l Gb (.slice nA nN nc) i W)) (fun x _ => R - (Go.RowKit.intOf x).toNat)
      case atStart => exact ⟨0, rfl, Nat.zero_le _, HS3⟩
      case round =>
        obtain ⟨i, rfl, hi, hS⟩ := hrel
        clear HS3
        obtain ⟨rA, rN, rc, rs, t1, t2, t3, t4, t5⟩ := hS.out
        have i0 : (0 : Int) ≤ (i : Int) := by omega
        have bW : Below w.heap.size w wr := HSS.out.2.2.2.1.trans (t5.below HSS.out.2.2.2.1.size (fun k hk => by rw [hk]; exact H5.out.2.2.2.2.1))
        by_cases hlt : i < R
        · have i1 : (i : Int) < (R : Int) := by omega
          obtain ⟨b5, hb5⟩ : ∃ b, b = 5 * i := ⟨_, rfl⟩
          obtain ⟨b2, hb2⟩ : ∃ b, b = 2 + b5 := ⟨_, rfl⟩
          obtain ⟨q, hq⟩ : ∃ b, b = b2 + 4 := ⟨_, rfl⟩
          have e5 : 5 * (i : Int) = (b5 : Int) := by omega
          have e2 : 2 + (b5 : Int) = (b2 : Int) := by omega
          have eq4 : (b2 : Int) + 4 = (q : Int) := by omega
          have hql : q < ws.length := by have h1 := HX.out.2.2.1.front; have h2 := HX.out.2.2.2.1; omega
          have qN : (q : Int) < (n : Int) := by have := HX.out.2.2.2.2.2.1; omega
          have q0 : (0 : Int) ≤ (q : Int) := by omega
          have q8 : (q : Int) ≤ 8192 := by have := HX.out.2.1; omega
          have HNq := Lib.hid (HNm.out wr bW b2 (by have := HX.out.2.2.2.2.2.1; omega))
          obtain ⟨ad', had', hadl, hcw⟩ := HX.out.1 q hql
          injection had' with had'
          subst had'
          obtain ⟨y, hy⟩ : ∃ y, y = ws[q] := ⟨_, rfl⟩
          rw [← hy] at hcw
          have HCq := Lib.hid (fun W (b : Below w.heap.size w W) => show (ad.add q).block < W.heap.size ∧ W.cell? (ad.add q) = some (.int .u64 (U64 y)) from ⟨by rw [add_block]; exact Nat.lt_of_lt_of_le hadl b.size, (b.cell (p := ad.add q) (by rw [add_block]; exact hadl)).trans hcw⟩)
          have hye : ws.getD (2 + 5 * i + 4) 0#64 = y := by rw [← hb5, ← hb2, ← hq, hy, List.getD_eq_getElem?_getD, List.getElem?_eq_getElem hql]; rfl
          obtain ⟨hnmk, hld⟩ := HX.out.2.2.1.roots i (by rw [← HX.out.2.2.2.1]; exact hlt)
          have hpt : y.toNat = 0 ∨ (1 ≤ y.toNat ∧ y.toNat - 1 ∈ l) := by
            unfold leadB at hld
            rw [hye] at hld
            exact of_decide_eq_true hld
          have hy8 : y.toNat ≤ 8192 := by
            rcases hpt with h | ⟨_, h⟩
            · omega
            · have := (HX.out.2.2.1.good _ h).2.1; have := HX.out.2.1; omega
          obtain ⟨z, hz⟩ : ∃ z, z = numV l ((y.toNat : Int) - 1) := ⟨_, rfl⟩
          have hdr : dRoot ws l i = ⟨strB (cutN (bytesM ws (8 * b2) 32)), z⟩ := by
            unfold dRoot
            rw [hye, rtI_small hy8, ← hz, ← hb5, ← hb2]
          have hnm2 : nmOk (bytesM ws (8 * b2) 32) = true := by rw [hb2, hb5]; exact hnmk
          have HNum := Lib.hid (fun W (bb : Ow iN 3 W w.heap.size (.slice pA M pc) l) => show Calls Try.prog 48 #[.slice pA M pc, .int .u64 (U64 y)] W (RetP (.int .i64 z) W) from by
            rw [HX.out.2.2.2.2.2.2.1] at bb ⊢
            rw [hz]
            exact number_c W pA pc l bb.rd (by have := HX.out.2.2.1.len; have := HX.out.2.1; omega) (fun v hv => by have := (HX.out.2.2.1.good v hv).2.1; have := HX.out.2.1; omega) HX.out.2.2.1.rise y hpt)
          have HT := Lib.hid (And.intro t1 (And.intro t2 (And.intro t3 (And.intro t4 (And.intro t5 (And.intro bW (And.intro hdr hnm2)))))))
          obtain ⟨yv, hyv⟩ : ∃ v, v = U64 y := ⟨_, rfl⟩
          rw [← hyv] at HNum HCq
          clear hS t1 t2 t3 t4 t5 bW hb5 hb2 hq hql hadl hcw hy hye hnmk hld hpt hy8 hz hdr hnm2 hyv hlt hi
          go_wp2_with fail
          refine Calls.mono HNq.out ?_
          rintro r w6 ⟨st, rfl, hst, b6⟩
          rw [HT.out.2.2.2.2.2.2.2]
          have HST := Lib.hid (hst HT.out.2.2.2.2.2.2.2)
          have hGS : Gb < wS.heap.size := Nat.lt_of_lt_of_le H5.out.2.2.2.1 HSS.out.2.2.2.2.2.2
          have gk6 := HT.out.1.below b6 HT.out.1.lt
          have hp6 : Ow iN 3 w6 w.heap.size (.slice pA M pc) l := (HT.out.2.2.2.2.1.ow HSS.out.2.2.2.2.1 (fun k hk => H5.out.2.2.2.2.2.2 k hk)).below b6
          have HNum2 := Lib.hid (fun W (b : Below w6.heap.size w6 W) => HNum.out W (hp6.below b))
          have H6 := Lib.hid (And.intro gk6 (And.intro b6 hGS))
          obtain ⟨hqb, hcq⟩ := HCq.out w6 (HT.out.2.2.2.2.2.1.trans (b6.mono HT.out.2.2.2.2.2.1.size))
          obtain ⟨d0, d1⟩ := gk6.two
          have hGl := gk6.lt
          clear hst hGS gk6 hp6 b6 HNum HCq HNq
          go_wp2_with fail
          refine rd20 _ _ _ i q b5 b2 n Gb M ad pA c pc (.slice rA rN rc) st yv z hGl d1 hqb hcq i0 e5 e2 eq4 q0 qN q8 HNum2 rfl ?_ ?_ ?_ ?_ ?_ ?_
          · rfl
          · rfl
          · rfl
          · rfl
          · rfl
          intro vals2 w10 hG h116 h128
          obtain ⟨qq, h128, hqq, hbq⟩ := h128
          unfold IsV at h116
          simp only [putD, Act.put, List.setIfInBounds_toArray, List.set_cons_zero, List.set_cons_succ, h116, h128]
          have hlen : rs.length ≤ 100000 := by
            rw [HT.out.2.2.2.1, List.length_map, List.length_range]
            omega
          have b610 := (H6.out.2.1.trans (hG.mono H6.out.2.1.size)).mono HT.out.2.2.2.2.1.size
          refine wp_appR7 rfl (.tmp 116) (.tmp 128) rfl wS.heap.size _ rs ⟨st, z⟩ rfl ((HT.out.2.1.below H6.out.2.1).below hG) qq 1 rfl (hbq.cell 0) (hbq.cell 1) hlen (Nat.le_trans HT.out.2.2.2.2.1.size b610.size) ?_
          intro v11 w11 ho hb hg
          obtain ⟨A11, c11, e11⟩ := rown_form7 ho
          obtain ⟨n11, hn11⟩ : ∃ m, m = (rs ++ [(⟨st, z⟩ : Rv)]).length := ⟨_, rfl⟩
          rw [← hn11] at e11
          subst e11
          refine ⟨rfl, trivial, ?_⟩
          have gk11 := (H6.out.1.below hG H6.out.1.lt).below hb H6.out.2.2
          have HN : Hid (RsP wS ws l Gb (.slice nA nN nc) (i + 1) (w11.setCell ⟨Gb, 1, none⟩ (.slice A11 n11 c11))) := by
            have hbk := gk11.set 1 (.slice A11 n11 c11)
            have h7 : ROwn7 w11 wS.heap.size (.slice A11 n11 c11) (rs ++ [⟨st, z⟩]) := ho
            refine Lib.hid ⟨A11, n11, c11, rs ++ [(⟨st, z⟩ : Rv)], by simpa using hbk, (show ROwn7 (w11.setCell ⟨Gb, 1, none⟩ (.slice A11 n11 c11)) wS.heap.size (.slice A11 n11 c11) (rs ++ [(⟨st, z⟩ : Rv)]) from (Kept.set w11 Gb 1 (.slice A11 n11 c11)).rowF h7 (fun j hj e => by have h1 := (World.ownsRow.lt h7 j hj).1; have h2 := H6.out.2.2; omega)), hn11, ?_, (HT.out.2.2.2.2.1.bel (b610.trans hb)).trans (Kept.set w11 Gb 1 _)⟩
            rw [List.range_succ, List.map_append, ← HT.out.2.2.2.1]
            show _ ++ [(⟨st, z⟩ : Rv)] = _ ++ [dRoot ws l i]
            rw [HT.out.2.2.2.2.2.2.1, HST.out]
          clear ho hb hg hn11 hG h116 h128 hbq hqq hlen b610 d0 d1 hGl hqb hcq H6 HNum2 HT HST
          obtain ⟨d0, d1⟩ := gk11.two
          have hGl := gk11.lt
          have hfr1 := gk11.free 1
          clear gk11
          go_wp2_with fail
          refine ⟨rfl, trivial, ?_⟩
          go_wp2_with fail
          go_roundw
          case rel => first | exact ⟨i + 1, by go_num, by omega, HN⟩ | ((repeat apply Exists.intro); refine ⟨?_, rfl⟩; exact ⟨i + 1, by go_num, by omega, HN⟩)
          case measure => simp [Go.RowKit.intOf]; omega
        · have i1 : ¬ (i : Int) < (R : Int) := by omega
          have hiR : i = R := by omega
          subst hiR
          have hRk : Bk wr Rb 31 #[.slice none 0 0, .slice none 0 0] := t5.bk HSS.out.2.2.2.2.2.1 H5.out.2.2.2.2.2.1
          have HT := Lib.hid (And.intro t1 (And.intro t2 (And.intro t3 (And.intro t4 (And.intro t5 (And.intro bW hRk))))))
          obtain ⟨d0, d1⟩ := t1.two
          have hGl := t1.lt
          obtain ⟨q0, q1⟩ := hRk.two
          have hRl := hRk.lt
          have hfr0 := hRk.free 0
          have hfr1 := hRk.free 1
          clear hS t1 t2 t3 t4 t5 bW hRk hlt hi
          go_wp2_with fail
          obtain ⟨V, hV⟩ : ∃ V, V = ((wr.setCell ⟨Rb, 0, none⟩ (.slice nA nN nc)).setCell ⟨Rb, 1, none⟩ (.slice rA rN rc)) := ⟨_, rfl⟩
          obtain ⟨t1, t2, t3, t4, t5, bW, hRk⟩ := HT.out
          have kR : Bk V Rb 31 #[.slice nA nN nc, .slice rA rN rc] := by rw [hV]; exact two_set hRk
          have kB : Below w.heap.size w V := by rw [hV]; exact two_below bW HFr.out
          have kK : Kept (fun k => k = Rb) wr V := by rw [hV]; exact (Kept.set wr Rb 0 _).trans (Kept.set _ Rb 1 _)
          have hl := run_loadVar_row (P := Try.prog) V Rb 31 31 #[.slice nA nN nc, .slice rA rN rc] (0, 0) _ kR Try.underlying31 rfl (by kernel_rfl)
          rw [← hV]
          have hRw : Rb < w5.heap.size := H5.out.1.lt
          have hN7 := (HSS.out.1.grown (kept_gr t5) (fun hm => by have h1 := blks_ge7 HSS.out.1 Gb hm; have h2 := H5.out.2.2.2.1; omega)).grown (kept_gr kK) (fun hm => by have h1 := blks_ge7 (HSS.out.1.grown (kept_gr t5) (fun hm => by have h1 := blks_ge7 HSS.out.1 Gb hm; have h2 := H5.out.2.2.2.1; omega)) Rb hm; omega)
          have hR7 : ROwn7 V wS.heap.size (.slice rA rN rc) rs := kK.rowF (show wr.ownsRow _ _ 2 _ _ _ from t2) (fun j hj e => by have h1 := (World.ownsRow.lt t2 j hj).1; have h2 := HSS.out.2.2.2.2.2.2; omega)
          clear hV q0 q1 hRl hfr0 hfr1 d0 d1 hGl
          refine bodyPost_ret (res2 (p := 2) (u := 3) (by kernel_rfl) hl rfl rfl) rfl ?_
          rw [HE.out]
          obtain ⟨r1, _, r3⟩ := hN7.rows
          obtain ⟨r4, _, r6⟩ := hR7.rows
          refine ⟨⟨nA, nc, rA, rc, xs, rs⟩, ?_, ?_, HSS.out.2.2.1, by rw [t4]; exact congrArg (fun m => (List.range m).map (dRoot ws l)) HX.out.2.2.2.1, kB⟩
          · rw [HSS.out.2.1, t3]; rfl
          · exact ⟨r1, r4, r3, r6⟩
end Go.Proofs.Ytkkjnahjmomjgaa
/- loamref17.Decode of words that are no image. Conditions: how much is wrong of them. -/
namespace Go.Proofs.Ytkkjnahjmomjgaa
set_option linter.unusedVariables false
set_option linter.unusedSimpArgs false
open Go.RowKit Go.Maps
set_option maxHeartbeats 4000000
set_option maxRecDepth 100000
theorem rdecodeB_c (w : World) (A : Option Addr) (c : Nat) (ws : List (BitVec 64)) (hr : Rd u64v w w.heap.size A ws) (h8 : ws.length ≤ 8192) (hl5 : (imgF ws).length ≤ 5000) (hi : imgF ws ≠ []) :
    Calls Try.prog 18 #[.slice A ws.length c] w (RetP (.tuple #[.agg #[.slice none 0 0, .slice none 0 0], .int .i64 2]) w) := by
  have HIm := Lib.hid (fun W (b : Below w.heap.size w W) => rimageG_c W A c ws ((hr.below b).more b.size) h8 hl5)
  obtain ⟨G, hG⟩ : ∃ G, G = imgF ws := ⟨_, rfl⟩
  rw [← hG] at HIm hi
  obtain ⟨n, hn⟩ : ∃ n, n = ws.length := ⟨_, rfl⟩
  have nI : (n : Int) ≤ 8192 := by omega
  rw [← hn] at HIm ⊢
  have HX := Lib.hid hi
  clear hr h8 hl5 hi hG hn
  go_enter Try.func18, Try.ntmps18
  go_wp2_with fail
  obtain ⟨Rb, hRb⟩ : ∃ R, R = w.heap.size := ⟨_, rfl⟩
  obtain ⟨w1, hw1⟩ : ∃ W, W = w.alloc (.cells #[.slice none 0 0, .slice none 0 0] 31) := ⟨_, rfl⟩
  have hbk : Bk w1 Rb 31 #[.slice none 0 0, .slice none 0 0] := by rw [hw1, hRb]; exact Bk.new w _ _
  have b1 : Below w.heap.size w w1 := by rw [hw1]; exact Gw.alloc w _
  rw [← hw1, ← hRb]
  have HFr := Lib.hid (Nat.le_of_eq hRb.symm)
  have H1 := Lib.hid (And.intro hbk b1)
  clear hw1 hRb hbk b1
  refine Calls.mono (HIm.out w1 H1.out.2) ?_
  rintro r w2 ⟨lv, rfl, hlv, b2⟩
  obtain ⟨A2, c2, e2, _⟩ := hlv.slice_
  obtain ⟨N, hN⟩ : ∃ N, N = G.length := ⟨_, rfl⟩
  rw [← hN] at e2
  subst e2
  have N1 : (0 : Int) < (N : Int) := by
    have : N ≠ 0 := fun e => HX.out (List.eq_nil_of_length_eq_zero (by rw [← hN]; exact e))
    omega
  have H2 := Lib.hid (And.intro (H1.out.1.below b2 H1.out.1.lt) (H1.out.2.trans (b2.mono H1.out.2.size)))
  clear hlv b2 H1 HIm hN
  obtain ⟨q0, q1⟩ := H2.out.1.two
  have hRl := H2.out.1.lt
  have hfr0 := H2.out.1.free 0
  have hfr1 := H2.out.1.free 1
  go_wp2_with fail
  obtain ⟨V, hV⟩ : ∃ V, V = ((w2.setCell ⟨Rb, 0, none⟩ (.slice none 0 0)).setCell ⟨Rb, 1, none⟩ (.slice none 0 0)) := ⟨_, rfl⟩
  have kR : Bk V Rb 31 #[.slice none 0 0, .slice none 0 0] := by rw [hV]; exact two_set H2.out.1
  have kB : Below w.heap.size w V := by rw [hV]; exact two_below H2.out.2 HFr.out
  have hl := run_loadVar_row (P := Try.prog) V Rb 31 31 #[.slice none 0 0, .slice none 0 0] (0, 0) _ kR Try.underlying31 rfl (by kernel_rfl)
  rw [← hV]
  clear hV q0 q1 hRl hfr0 hfr1
  refine bodyPost_ret (res2 (p := 2) (u := 3) (by kernel_rfl) hl rfl rfl) rfl ?_
  exact ⟨rfl, kB⟩
end Go.Proofs.Ytkkjnahjmomjgaa
/- image.putRoot. Conditions: a name that may be, a node that is there. -/
namespace Go.Proofs.Ytkkjnahjmomjgaa
set_option linter.unusedVariables false
set_option linter.unusedSimpArgs false
open Go.RowKit Go.Maps
set_option maxHeartbeats 4000000
set_option maxRecDepth 100000
theorem putRoot_c (w : World) (B s g S b t e a bb qb cq : Nat) (v : Value) (ws : List (BitVec 64)) (ns : List Nv) (h : PuAt w B s g v ws b t e S (.slice (some ⟨qb, 0, none⟩) (ns.length + 1) cq) (plI ns bb)) (r : Rv) (hgd : goodS r.s = true) (ho : okP ns.length r.t = true) (hend : endL ns bb ≤ 8192) (ha : a + 4 < ws.length) (h8 : ws.length ≤ 8192) :
    Calls Try.prog 29 #[.pointer (some ⟨g, 0, none⟩), .int .i64 (a : Int), r.v, .slice (some ⟨qb, 0, none⟩) (ns.length + 1) cq] w (fun r' w' => r' = .returned (.int .i64 0) ∧ PuAt w' B s g v ((putK ws (8 * a) (nameW r.s) (nameW r.s).length).set (a + 4) (pointW (placeL ns bb) r.t)) b t e S (.slice (some ⟨qb, 0, none⟩) (ns.length + 1) cq) (plI ns bb) ∧ Below B w w' ∧ Two w w' s v.ownBlock) := by
  obtain ⟨st, to⟩ := r
  simp only at hgd ho ⊢
  unfold Rv.v
  simp only
  obtain ⟨k, hk⟩ : ∃ k, k = nameW st := ⟨_, rfl⟩
  have hkw : nW k := by rw [hk]; exact nameW_len (goodS_size hgd).2
  have HFX := Lib.hid (fun W => show Calls Try.prog 67 #[.string st] W (RetP (.tuple #[nV k, .int .i64 0]) W) from by
    have h1 := fix_ok (bitsOf st) W (good_bits hgd)
    rw [strB_bits, ← nameW_pad, ← hk] at h1
    exact h1)
  rw [← hk]
  obtain ⟨arr, harr⟩ : ∃ arr, arr = nC k := ⟨_, rfl⟩
  unfold nV at HFX
  rw [← harr] at HFX
  have HA := Lib.hid harr
  have HS32 := Lib.hid (show arr.size = 32 from by rw [harr]; exact nC_size hkw)
  have HONE := Lib.hid (show arr.all (·.oneCell') = true from by rw [harr]; exact nC_one k)
  obtain ⟨za, hza⟩ : ∃ za, za = nC zN := ⟨_, rfl⟩
  have hzero := zeroN
  rw [← hza] at hzero
  have HZS := Lib.hid (show za.size = 32 from by rw [hza]; exact nC_size zN_w)
  obtain ⟨⟨p0, p1⟩, p2, y, p3, p4, p5⟩ := point_val ns bb to ho hend
  obtain ⟨x, hx⟩ : ∃ x, x = pointW (placeL ns bb) to := ⟨_, rfl⟩
  rw [← hx] at p5 ⊢
  obtain ⟨pn, hpn⟩ : ∃ pn, pn = to.toNat := ⟨_, rfl⟩
  have pI : to = (pn : Int) := by omega
  subst pI
  have hpc := h.row.cell p2
  rw [p3, ← hpn] at hpc
  unfold iV at hpc
  have HPc := Lib.hid hpc
  obtain ⟨NN, hNN⟩ : ∃ NN, NN = ns.length + 1 := ⟨_, rfl⟩
  have pN : (pn : Int) < (NN : Int) := by omega
  have pZ : (0 : Int) ≤ (pn : Int) := by omega
  have hqb : qb < w.heap.size ∧ S ≤ qb := ⟨h.row.ge.2, h.row.ge.1⟩
  rw [← hNN] at h ⊢
  obtain ⟨a8, ha8⟩ : ∃ a8, a8 = 8 * a := ⟨_, rfl⟩
  obtain ⟨a4, ha4⟩ : ∃ a4, a4 = a + 4 := ⟨_, rfl⟩
  rw [← ha8, ← ha4]
  have q1 : (a : Int) * 8 = (a8 : Int) := by omega
  have q2 : (a : Int) + 4 = (a4 : Int) := by omega
  have q3 : (a8 : Int) ≤ 65536 := by omega
  have q4 : (a4 : Int) ≤ 8192 := by omega
  have q5 : (y : Int) - 1 + 1 = (y : Int) := by omega
  have q6 : (y : Int) ≤ 8192 := by omega
  have q7 : (0 : Int) ≤ (a : Int) := by omega
  have hkl : k.length = 32 := hkw
  have HSB := Lib.hid (fun W (m : MemAt W B g v ws) (q : Nat) (hb : Bk W q 120 arr) (hq : some q ≠ v.ownBlock) => setBytes_in W B g v ws a8 (some ⟨q, 0, none⟩) 32 k (by omega) (by omega) m (nrd (harr ▸ hb) hb.lt) (fun _ x hx => by injection hx with hx; rw [← hx]; exact hq))
  have hpl : (putK ws a8 k k.length).length = ws.length := putK_len _ _ _ _
  have HSt := Lib.hid (fun W (m : MemAt W B g v (putK ws a8 k k.length)) => set_in W B g v (putK ws a8 k k.length) a4 x (by omega) (by omega) m)
  rw [p5] at HSt
  rw [hkl] at HSB
  have HL := Lib.hid (And.intro hpl (And.intro hkl hqb))
  have H0 := Lib.hid h
  have HVs := Lib.hid (fun i (hi : v.ownBlock = some i) => (h.sp.mem.row.lt i hi).2)
  clear h hgd ho hend ha h8 hk hkw harr hza p1 p2 p3 p4 p5 hx hpn hpc hNN hqb ha8 ha4 hkl hpl p0
  go_enter Try.func29, Try.ntmps29
  go_wp2_with fail
  obtain ⟨Rb, hRb⟩ : ∃ R, R = w.heap.size := ⟨_, rfl⟩
  obtain ⟨w1, hw1⟩ : ∃ W, W = w.alloc (.cells #[.string st, .int .i64 (pn : Int)] 56) := ⟨_, rfl⟩
  have hbk : Bk w1 Rb 56 #[.string st, .int .i64 (pn : Int)] := by rw [hw1, hRb]; exact Bk.new w _ _
  have b1 : Below w.heap.size w w1 := by rw [hw1]; exact Gw.alloc w _
  rw [← hw1, ← hRb]
  have HRb := Lib.hid hRb
  have H1 := Lib.hid (And.intro hbk b1)
  clear hw1 hRb hbk b1
  refine Calls.mono (HFX.out w1) ?_
  rintro r w2 ⟨rfl, b2⟩
  have H2 := Lib.hid (And.intro (H1.out.1.below b2 H1.out.1.lt) (H1.out.2.trans (b2.mono H1.out.2.size)))
  clear b2 H1
  have HQ2 := Lib.hid (Bk.new w2 120 za)
  have hl2 : w.heap.size ≤ w2.heap.size := H2.out.2.size
  have HB2 := Lib.hid (show Bk (w2.alloc (.cells za 120)) Rb 56 #[.string st, .int .i64 (pn : Int)] ∧ Below w.heap.size w (w2.alloc (.cells za 120)) ∧ Rb < w2.heap.size ∧ w.heap.size ≤ w2.heap.size from ⟨H2.out.1.alloc _, H2.out.2.trans ((Gw.alloc w2 _).mono hl2), H2.out.1.lt, hl2⟩)
  clear hl2 H2
  go_wp2_with (refine wp_storeN rfl _ _ rfl w2.heap.size arr rfl rfl 120 za HQ2.out HS32.out HZS.out HONE.out ?_; intro w3 k3 b3 o3; have H3 := Lib.hid (show Bk w3 w2.heap.size 120 arr ∧ Bk w3 Rb 56 #[.string st, .int .i64 (pn : Int)] ∧ Below w.heap.size w w3 ∧ some w2.heap.size ≠ v.ownBlock from ⟨k3, (o3 _ (by have := HB2.out.2.2.1; omega)).trans HB2.out.1, HB2.out.2.1.trans (b3 _ HB2.out.2.2.2), fun hh => by have := HVs.out _ hh.symm; have := HB2.out.2.2.2; omega⟩); clear k3 b3 o3)
  obtain ⟨Nb, hNb⟩ : ∃ q, q = w2.heap.size := ⟨_, rfl⟩
  rw [← hNb] at H3 ⊢
  have H4 := Lib.hid (H0.out.below H3.out.2.2.1)
  clear hNb HQ2 HB2
  refine Calls.mono (HSB.out w3 H4.out.sp.mem Nb H3.out.1 H3.out.2.2.2) ?_
  rintro r w5 ⟨rfl, m5, g5⟩
  rw [← HL.out.2.1] at m5
  have H5 := Lib.hid (show PuAt w5 B s g v (putK ws a8 k k.length) b t e S (.slice (some ⟨qb, 0, none⟩) NN cq) (plI ns bb) ∧ Below B w w5 ∧ Bk w5 Rb 56 #[.string st, .int .i64 (pn : Int)] ∧ w5.cell? ⟨qb, pn, none⟩ = some (.int .i64 ((y : Int) - 1)) ∧ qb < w5.heap.size ∧ Two w w5 s v.ownBlock from by
    have hsp := H4.out.sp.memTo m5 g5 HL.out.1
    have b35 : Below B w3 w5 := H4.out.sp.mem.own g5
    have hb0 : Below B w w3 := H3.out.2.2.1.mono H0.out.sp.mem.le
    refine ⟨H4.out.two hsp (Two.grown g5), hb0.trans b35, (Kept.grown g5).bk H3.out.2.1 (fun hh => ?_), ?_, ?_, (Two.below H3.out.2.2.1).trans (Two.grown g5)⟩
    · have := HVs.out _ hh; have := HRb.out; omega
    · rw [(Kept.grown g5).cell (p := ⟨qb, pn, none⟩) (Nat.lt_of_lt_of_le HL.out.2.2.1 H3.out.2.2.1.size) (fun hh => ?_), H3.out.2.2.1.cell (p := ⟨qb, pn, none⟩) HL.out.2.2.1]
      · exact HPc.out
      · have h9 : qb < S := H0.out.vs _ hh
        have := HL.out.2.2.2
        omega
    · exact Nat.lt_of_lt_of_le HL.out.2.2.1 (Nat.le_trans H3.out.2.2.1.size g5.size))
  clear m5 g5 H4 H3
  obtain ⟨g0, g1⟩ := H5.out.2.2.1.two
  have hRl := H5.out.2.2.1.lt
  have hpc := H5.out.2.2.2.1
  have hql := H5.out.2.2.2.2.1
  go_wp2_with fail
  refine Calls.mono (HSt.out w5 H5.out.1.sp.mem) ?_
  rintro r w6 ⟨rfl, m6, g6⟩
  have H6 := Lib.hid (show PuAt w6 B s g v ((putK ws a8 k k.length).set a4 x) b t e S (.slice (some ⟨qb, 0, none⟩) NN cq) (plI ns bb) ∧ Below B w w6 ∧ Two w w6 s v.ownBlock from
    ⟨H5.out.1.two (H5.out.1.sp.memTo m6 g6 List.length_set) (Two.grown g6), H5.out.2.1.trans (H5.out.1.sp.mem.own g6), H5.out.2.2.2.2.2.trans (Two.grown g6)⟩)
  clear m6 g6 g0 g1 hRl hpc hql H5
  go_wp2_with fail
  go_ret
  exact ⟨rfl, H6.out⟩
end Go.Proofs.Ytkkjnahjmomjgaa
/- A region that draws its order, some of whose operations store into boxes that it makes: by a fact for each operation. No conditions. -/
namespace Go.Proofs.Ytkkjnahjmomjgaa
set_option linter.unusedVariables false
set_option linter.unusedSimpArgs false
open Go.RowKit
section
variable {P : Program} {ops : Array Oper} {Q : Exit → Act → World → Prop} {G D : World → World → Prop} {F : Nat → Value → World → Prop} {a0 : Act} {w0 : World} {src : Nat → Nat}
/-- Each operation has a slot of its own, or none; it waits for elder ones alone; none defers. -/
def regGB (ops : Array Oper) (size : Nat) : Bool :=
  (List.range ops.size).all fun i => match ops[i]? with
    | none => false
    | some o =>
      (match o.dst with
       | none => true
       | some d => decide (d < size) && (List.range ops.size).all fun j => j == i || dstOf ops j != some d) &&
      (o.after.all fun e => !Region.binds .any e || decide (e.on < i)) &&
      (match o.op with | .defer _ => false | .select .. => false | _ => true)
def srcB (ops : Array Oper) (src : Nat → Nat) : Bool :=
  (List.range ops.size).all fun i => (src i == i && (dstOf ops i).isSome) || ((dstOf ops i).isNone && waitsB ops i (src i) && (dstOf ops (src i)).isSome)
/-- What operation i owes: its fact, of what it leaves, or of what another has left, and what it turns. -/
def OwesG (P : Program) (ops : Array Oper) (Q : Exit → Act → World → Prop) (G D : World → World → Prop) (F : Nat → Value → World → Prop) (src : Nat → Nat) (a0 : Act) (w0 : World) (i : Nat) : Prop :=
  ∀ (a : Act) (w : World), G w0 w → a.defers = a0.defers → a.tmps.size = a0.tmps.size →
    (∀ j, waitsB ops i j = true → src j = j → F j (valAt ops a j) w) →
    (∀ t, (∀ j, dstOf ops j = some t → waitsB ops j i = true) → a.tmps.getD t undef = a0.tmps.getD t undef) →
    wpOp P ops Q i (fun a' w' => ∃ v, a' = a.put (dstOf ops i) v ∧ D w w' ∧ F i (if src i = i then v else valAt ops a (src i)) w') a w
theorem regGB_at {size : Nat} (h : regGB ops size = true) {i : Nat} (hi : i < ops.size) : ∃ o, ops[i]? = some o ∧ (∀ d, o.dst = some d → d < size ∧ (∀ j, j < ops.size → j ≠ i → dstOf ops j ≠ some d)) ∧ (∀ e ∈ o.after, Region.binds .any e = true → e.on < i) := by
  unfold regGB at h
  rw [List.all_eq_true] at h
  have h1 := h i (List.mem_range.2 hi)
  cases ho : ops[i]? with
  | none => rw [ho] at h1; cases h1
  | some o =>
    rw [ho] at h1
    simp only [Bool.and_eq_true] at h1
    obtain ⟨⟨h1, h2⟩, _⟩ := h1
    refine ⟨o, rfl, fun d hd => ?_, fun e he hb => ?_⟩
    · rw [hd] at h1
      simp only [Bool.and_eq_true, decide_eq_true_eq, List.all_eq_true, List.mem_range, Bool.or_eq_true, beq_iff_eq, bne_iff_ne] at h1
      refine ⟨h1.1, fun j hj hne => ?_⟩
      rcases h1.2 j hj with h | h
      · exact absurd h hne
      · exact h
    · have := Array.all_eq_true_iff_forall_mem.1 h2 e he
      simpa [hb] using this
/-- What operation i owes, at the very state: its fact, of whatever it leaves. -/
def OwesD (P : Program) (ops : Array Oper) (Q : Exit → Act → World → Prop) (G D : World → World → Prop) (F : Nat → Value → World → Prop) (a0 : Act) (w0 : World) (i : Nat) : Prop :=
  ∀ (a : Act) (w : World), G w0 w → a.defers = a0.defers → a.tmps.size = a0.tmps.size →
    (∀ j, waitsB ops i j = true → F j (valAt ops a j) w) →
    (∀ t, (∀ j, dstOf ops j = some t → waitsB ops j i = true) → a.tmps.getD t undef = a0.tmps.getD t undef) →
    wpOp P ops Q i (fun a' w' => ∃ v, a' = a.put (dstOf ops i) v ∧ D w w' ∧ F i v w') a w

/-- An operation that runs whatever comes: by the operations js that it waits for. -/
theorem owes_ofD {i : Nat} {o : Oper} (js : List Nat) (ho : ops[i]? = some o) (hg : o.guard = none) (hsee : seesB ops i js = true)
    (hnd : match o.op with | .defer _ => False | .select .. => False | _ => True)
    (h : ∀ (vals : Nat → Value) (w : World), G w0 w → (∀ j ∈ js, F j (vals j) w) → ∀ K : Act → World → Prop, (∀ v w', D w w' → F i v w' → K ((putL ops vals js a0).put o.dst v) w') →
      Oper.wp P o (putL ops vals js a0) w K NoQ) : OwesD P ops Q G D F a0 w0 i := by
  intro a w hG hd hs hF hR
  unfold wpOp
  rw [ho]
  simp only [Region.wanted, hg, if_true]
  left
  have hsee' : (js.all (fun j => waitsB ops i j) = true) ∧ ∀ t ∈ (o.op.operands.toList.filterMap fun | .tmp t => some t | _ => none), js.any (fun j => dstOf ops j == some t) = true ∨ (List.range ops.size).all (fun j => dstOf ops j != some t || waitsB ops j i) = true := by
    unfold seesB at hsee
    rw [ho] at hsee
    simp only [Bool.and_eq_true, List.all_eq_true, Bool.or_eq_true] at hsee
    refine ⟨by rw [List.all_eq_true]; exact hsee.1, fun t ht => ?_⟩
    rcases hsee.2 t ht with h | h
    · exact .inl h
    · right; rw [List.all_eq_true]; simpa using h
  have hjs : ∀ j ∈ js, waitsB ops i j = true := List.all_eq_true.1 hsee'.1
  have ht : ∀ t ∈ (o.op.operands.toList.filterMap fun | .tmp t => some t | _ => none), a0.tmps.getD t undef = a.tmps.getD t undef ∨ ∃ j ∈ js, dstOf ops j = some t := by
    intro t ht
    rcases hsee'.2 t ht with h | h
    · right
      rw [List.any_eq_true] at h
      obtain ⟨j, hj, e⟩ := h
      exact ⟨j, hj, by simpa using e⟩
    · left
      refine (hR t fun j hj => ?_).symm
      rw [List.all_eq_true] at h
      have hlt : j < ops.size := by
        rcases Nat.lt_or_ge j ops.size with hl | hl
        · exact hl
        · unfold dstOf at hj; rw [Array.getElem?_eq_none hl] at hj; cases hj
      have := h j (List.mem_range.2 hlt)
      simpa [hj] using this
  have he : execOp (putL ops (valAt ops a) js a0).eval o = execOp a.eval o := by
    refine execOp_congr o (fun cs b e => by rw [e] at hnd; exact hnd) fun x hx => ?_
    cases x with
    | tmp t =>
      show (putL ops (valAt ops a) js a0).tmps.getD t undef = a.tmps.getD t undef
      exact putL_at a t js a0 hs.symm (ht t (List.mem_filterMap.2 ⟨.tmp t, by simpa using hx, rfl⟩))
    | _ => rfl
  have hsz : a.tmps.size = (putL ops (valAt ops a) js a0).tmps.size := by rw [putL_size, hs]
  have hdo : dstOf ops i = o.dst := by unfold dstOf; rw [ho]; rfl
  rw [hdo]
  refine wp_same (K1 := fun A' w' => ∃ v, A' = (putL ops (valAt ops a) js a0).put o.dst v ∧ D w w' ∧ F i v w') he hsz hnd ?_ ?_
  · exact h (valAt ops a) w hG (fun j hj => hF j (hjs j hj)) _ (fun v w' g f => ⟨v, rfl, v, rfl, g, f⟩)
  · rintro v w' ⟨v', e, g, f⟩
    exact ⟨v', put_eq e hsz, g, f⟩

theorem owes_vD {i : Nat} (op : Op) (type : TypeId) (js : List Nat) (ho : (ops[i]?).map (fun o => (o.op, o.type)) = some (op, type)) (hg : (ops[i]?).bind (·.guard) = none) (hsee : seesB ops i js = true)
    (hnd : callsB op = true)
    (h : ∀ (vals : Nat → Value) (w : World) (ρ : Operand → Value), G w0 w → (∀ j ∈ js, F j (vals j) w) → (∀ t, ρ (.tmp t) = (putL ops vals js a0).tmps.getD t undef) → (∀ c, ρ (.const c) = c) → (∀ f, ρ (.func f) = .func (.func f) #[] #[]) →
      OpV P op type ρ w fun v w' => D w w' ∧ F i v w') : OwesD P ops Q G D F a0 w0 i := by
  obtain ⟨o, h1, h2, h3⟩ := isOp_mk ho
  subst h2 h3
  rw [h1] at hg
  exact owes_ofD js h1 hg hsee (by revert hnd; cases o.op <;> simp [callsB]) fun vals w hG hF K hK => opv_wp (h vals w (putL ops vals js a0).eval hG hF (fun t => rfl) (fun c => rfl) (fun f => rfl)) fun v w' hr => hK v w' hr.1 hr.2
/-- A copy of a slot that is as it was. -/
theorem owes_mvD (hD : ∀ w, D w w) {i : Nat} (t : Tmp) {c : Value} (ho : ((ops[i]?).map fun o => copies t o.op) = some true) (hg : (ops[i]?).bind (·.guard) = none) (hsee : seesB ops i [] = true) (hv : a0.tmps.getD t undef = c) (hF : ∀ w, F i c w) :
    OwesD P ops Q G D F a0 w0 i := by
  cases hi : ops[i]? with
  | none => rw [hi] at ho; cases ho
  | some o =>
    rw [hi] at ho
    simp only [Option.map_some, Option.some.injEq] at ho
    refine owes_vD o.op o.type [] (by rw [hi]; rfl) hg hsee (by revert ho; cases o.op <;> simp [copies, callsB]) fun vals w ρ hG hF' hρ hc hf => ?_
    exact opv_val (copies_run ho) ⟨hD _, by rw [hρ t]; show F i (a0.tmps.getD t undef) w; rw [hv]; exact hF w⟩
/-- A copy of what operation j leaves. -/
theorem owes_mvjD (hD : ∀ w, D w w) {i : Nat} (j : Nat) (t : Tmp) (ho : ((ops[i]?).map fun o => copies t o.op) = some true) (hg : (ops[i]?).bind (·.guard) = none) (hsee : seesB ops i [j] = true) (hd : dstOf ops j = some t) (hl : t < a0.tmps.size) (hF : ∀ v w, F j v w → F i v w) :
    OwesD P ops Q G D F a0 w0 i := by
  cases hi : ops[i]? with
  | none => rw [hi] at ho; cases ho
  | some o =>
    rw [hi] at ho
    simp only [Option.map_some, Option.some.injEq] at ho
    refine owes_vD o.op o.type [j] (by rw [hi]; rfl) hg hsee (by revert ho; cases o.op <;> simp [copies, callsB]) fun vals w ρ hG hF' hρ hc hf => ?_
    refine opv_val (copies_run ho) ⟨hD _, ?_⟩
    rw [hρ t]
    unfold putL putL
    rw [hd, put_same _ _ _ hl]
    exact hF _ _ (hF' j (.head _))

/-- An operation with a slot of its own. -/
theorem OwesG.mk {i : Nat} (hs0 : src i = i) (hsw : ∀ j, waitsB ops i j = true → src j = j) (h : OwesD P ops Q G D F a0 w0 i) : OwesG P ops Q G D F src a0 w0 i := by
  intro a w hG hd hs hF hR
  refine wpOp_mono ?_ (h a w hG hd hs (fun j hj => hF j hj (hsw j hj)) hR)
  rintro a' w' ⟨v, e, hg, hf⟩
  exact ⟨v, e, hg, by rw [if_pos hs0]; exact hf⟩
/-- An operation without a slot, whose fact is of what another has left. -/
theorem OwesG.store {i : Nat} {o : Oper} (js : List Nat) (ho : ops[i]? = some o) (hg : o.guard = none) (hdn : o.dst = none) (hs0 : src i ≠ i) (hmem : src i ∈ js) (hjs : ∀ j ∈ js, src j = j) (hsee : seesB ops i js = true)
    (hnd : match o.op with | .defer _ => False | .select .. => False | _ => True)
    (h : ∀ (vals : Nat → Value) (w : World), G w0 w → (∀ j ∈ js, F j (vals j) w) → ∀ K : Act → World → Prop, (∀ v w', D w w' → F i (vals (src i)) w' → K ((putL ops vals js a0).put o.dst v) w') →
      Oper.wp P o (putL ops vals js a0) w K NoQ) : OwesG P ops Q G D F src a0 w0 i := by
  intro a w hG hd hs hF hR
  unfold wpOp
  rw [ho]
  simp only [Region.wanted, hg, if_true]
  left
  have hsee' : (js.all (fun j => waitsB ops i j) = true) ∧ ∀ t ∈ (o.op.operands.toList.filterMap fun | .tmp t => some t | _ => none), js.any (fun j => dstOf ops j == some t) = true ∨ (List.range ops.size).all (fun j => dstOf ops j != some t || waitsB ops j i) = true := by
    unfold seesB at hsee
    rw [ho] at hsee
    simp only [Bool.and_eq_true, List.all_eq_true, Bool.or_eq_true] at hsee
    refine ⟨by rw [List.all_eq_true]; exact hsee.1, fun t ht => ?_⟩
    rcases hsee.2 t ht with h | h
    · exact .inl h
    · right; rw [List.all_eq_true]; simpa using h
  have hjs2 : ∀ j ∈ js, waitsB ops i j = true := List.all_eq_true.1 hsee'.1
  have ht : ∀ t ∈ (o.op.operands.toList.filterMap fun | .tmp t => some t | _ => none), a0.tmps.getD t undef = a.tmps.getD t undef ∨ ∃ j ∈ js, dstOf ops j = some t := by
    intro t ht
    rcases hsee'.2 t ht with h | h
    · right
      rw [List.any_eq_true] at h
      obtain ⟨j, hj, e⟩ := h
      exact ⟨j, hj, by simpa using e⟩
    · left
      refine (hR t fun j hj => ?_).symm
      rw [List.all_eq_true] at h
      have hlt : j < ops.size := by
        rcases Nat.lt_or_ge j ops.size with hl | hl
        · exact hl
        · unfold dstOf at hj; rw [Array.getElem?_eq_none hl] at hj; cases hj
      have := h j (List.mem_range.2 hlt)
      simpa [hj] using this
  have he : execOp (putL ops (valAt ops a) js a0).eval o = execOp a.eval o := by
    refine execOp_congr o (fun cs b e => by rw [e] at hnd; exact hnd) fun x hx => ?_
    cases x with
    | tmp t =>
      show (putL ops (valAt ops a) js a0).tmps.getD t undef = a.tmps.getD t undef
      exact putL_at a t js a0 hs.symm (ht t (List.mem_filterMap.2 ⟨.tmp t, by simpa using hx, rfl⟩))
    | _ => rfl
  have hsz : a.tmps.size = (putL ops (valAt ops a) js a0).tmps.size := by rw [putL_size, hs]
  have hdo : dstOf ops i = o.dst := by unfold dstOf; rw [ho]; rfl
  rw [hdo]
  refine wp_same (K1 := fun A' w' => ∃ v, A' = (putL ops (valAt ops a) js a0).put o.dst v ∧ D w w' ∧ F i (valAt ops a (src i)) w') he hsz hnd ?_ ?_
  · exact h (valAt ops a) w hG (fun j hj => hF j (hjs2 j hj) (hjs j hj)) _ (fun v w' g f => ⟨v, rfl, v, rfl, g, f⟩)
  · rintro v w' ⟨v', e, g, f⟩
    exact ⟨v', put_eq e hsz, g, by rw [if_neg hs0]; exact f⟩

theorem OwesG.weak {i : Nat} {Pr : World → Prop} (h : OwesG P ops Q G D F src a0 w0 i) : OwesG P ops Q (fun w w' => G w w' ∧ Pr w') D F src a0 w0 i := fun a w hG hd hs hF hR => h a w hG.1 hd hs hF hR
theorem region_factsG {id : Nat} {DD : Nat → World → World → Prop} (Pre : Nat → World → Prop) (hpre0 : ∀ i, i < ops.size → Pre i w0.drew) (hpres : ∀ i k, i < ops.size → k < ops.size → k ≠ i → ∀ a b, G w0 a → Pre k a → DD i a b → Pre k b) (hm : P.follows .mixedOrders = true) (hrefl : G w0 w0.drew) (htrans : ∀ i, i < ops.size → ∀ a b, G w0 a → DD i a b → G w0 b) (hmono : ∀ i j, i < ops.size → j < ops.size → i ≠ j → ∀ v a b, F j v a → DD i a b → F j v b)
    (hreg : regGB ops a0.tmps.size = true) (hsrc : srcB ops src = true) (howes : ∀ i, i < ops.size → OwesG P ops Q (fun w w' => G w w' ∧ Pre i w') (DD i) F src a0 w0 i)
    (fin : ∀ (vals : Nat → Value) (w : World), G w0 w → (∀ j, j < ops.size → F j (vals (src j)) w) → Q .normal (putL ops vals (List.range ops.size) a0) w) :
    (Code.region id ops true).wp P Q a0 w0 := by
  have main : ∀ (fuel : Nat) (listed : Array Bool) (a : Act) (w : World), listed.size = ops.size →
      ((List.range ops.size).filter fun j => !listed.getD j true).length ≤ fuel →
      G w0 w → (∀ j, j < ops.size → listed.getD j true = false → Pre j w) → a.defers = a0.defers → a.tmps.size = a0.tmps.size →
      (∀ j, j < ops.size → listed.getD j true = true → F j (valAt ops a (src j)) w) →
      (∀ t, (∀ j, j < ops.size → listed.getD j true = true → dstOf ops j ≠ some t) → a.tmps.getD t undef = a0.tmps.getD t undef) →
      (∀ j, j < ops.size → listed.getD j true = true → ∀ k, waitsB ops j k = true → listed.getD k false = true) →
      wpAny P .any ops Q fuel listed a w := by
    intro fuel
    -- where nothing may come up all has come up
    have allUp : ∀ (listed : Array Bool), listed.size = ops.size → Region.ready .any ops listed = [] → ∀ j, j < ops.size → listed.getD j true = true := by
      intro listed hsz hr j
      induction j using Nat.strongRecOn with
      | ind j ih =>
        intro hj
        cases hl : listed.getD j true with
        | true => rfl
        | false =>
          exfalso
          obtain ⟨o, ho, _, he⟩ := regGB_at hreg hj
          have : j ∈ Region.ready .any ops listed := mem_ready.2 ⟨hl, o, ho, fun e hem hb => by
            have hlt := he e hem hb
            have := ih e.on hlt (by omega)
            rw [Array.getD_eq_getD_getElem?] at this ⊢
            rw [Array.getElem?_eq_getElem (by omega)] at this ⊢
            exact this⟩
          rw [hr] at this
          cases this
    have done : ∀ (listed : Array Bool) (a : Act) (w : World), (∀ j, j < ops.size → listed.getD j true = true) → G w0 w → a.defers = a0.defers → a.tmps.size = a0.tmps.size →
        (∀ j, j < ops.size → listed.getD j true = true → F j (valAt ops a (src j)) w) →
        (∀ t, (∀ j, j < ops.size → listed.getD j true = true → dstOf ops j ≠ some t) → a.tmps.getD t undef = a0.tmps.getD t undef) → Q .normal a w := by
      intro listed a w hall hG hd hs hF hR
      have := fin (valAt ops a) w hG (fun j hj => hF j hj (hall j hj))
      rw [putL_whole a (List.range ops.size) a0 hs.symm hd.symm] at this
      · exact this
      · intro t
        by_cases e : ∃ j, j < ops.size ∧ dstOf ops j = some t
        · obtain ⟨j, hj, hjd⟩ := e
          exact .inr ⟨j, List.mem_range.2 hj, hjd⟩
        · left
          exact (hR t fun j hj _ he => e ⟨j, hj, he⟩).symm
    induction fuel with
    | zero =>
      intro listed a w hsz hcnt hG hPre hd hs hF hR hC
      have hall : ∀ j, j < ops.size → listed.getD j true = true := by
        intro j hj
        cases hl : listed.getD j true with
        | true => rfl
        | false =>
          have : j ∈ (List.range ops.size).filter fun j => !listed.getD j true := List.mem_filter.2 ⟨List.mem_range.2 hj, by simp only [hl]; rfl⟩
          rw [List.eq_nil_of_length_eq_zero (Nat.le_zero.1 hcnt)] at this
          cases this
      refine ⟨?_, done listed a w hall hG hd hs hF hR⟩
      apply List.eq_nil_iff_forall_not_mem.2
      intro j hj
      obtain ⟨h1, o, ho, _⟩ := mem_ready.1 hj
      have hlt : j < ops.size := (Array.getElem?_eq_some_iff.1 ho).1
      rw [hall j hlt] at h1
      cases h1
    | succ fuel ih =>
      intro listed a w hsz hcnt hG hPre hd hs hF hR hC
      refine ⟨fun hr => done listed a w (allUp listed hsz hr) hG hd hs hF hR, fun i hi => ?_⟩
      obtain ⟨hun, o, ho, hall⟩ := mem_ready.1 hi
      have hlt : i < ops.size := (Array.getElem?_eq_some_iff.1 ho).1
      have hlz : i < listed.size := by omega
      have hw : ∀ j, waitsB ops i j = true → j < ops.size ∧ listed.getD j true = true := by
        intro j hj
        obtain ⟨o', ho', e, he, hb, rfl⟩ := waits_some hj
        rw [ho] at ho'
        injection ho' with ho'
        subst ho'
        have h1 := hall e he hb
        rw [Array.getD_eq_getD_getElem?] at h1
        rcases Nat.lt_or_ge e.on listed.size with hl | hl
        · refine ⟨by omega, ?_⟩
          rw [Array.getD_eq_getD_getElem?]
          rw [Array.getElem?_eq_getElem hl] at h1 ⊢
          exact h1
        · rw [Array.getElem?_eq_none hl] at h1; cases h1
      have hstep := howes i hlt a w ⟨hG, hPre i hlt hun⟩ hd hs (fun j hj hsj => by have h1 := hF j (hw j hj).1 (hw j hj).2; rw [hsj] at h1; exact h1) (fun t ht => hR t fun j hj hl he => by
        have h1 := hC j hj hl i (ht j he)
        rw [Array.getD_eq_getD_getElem?, Array.getElem?_eq_getElem hlz] at h1 hun
        simp only [Option.getD_some] at h1 hun
        rw [h1] at hun; cases hun)
      refine wpOp_mono ?_ hstep
      rintro a' w' ⟨v, rfl, hg, hf⟩
      have hset : ∀ j b, (listed.setIfInBounds i true).getD j b = if j = i then true else listed.getD j b := by
        intro j b
        rw [Array.getD_eq_getD_getElem?, Array.getD_eq_getD_getElem?, Array.getElem?_setIfInBounds]
        by_cases e : i = j
        · subst e; simp [hlz]
        · rw [if_neg e, if_neg (fun h => e h.symm)]
      obtain ⟨o2, ho2, hd2, _⟩ := regGB_at hreg hlt
      have hdo : dstOf ops i = o2.dst := by unfold dstOf; rw [ho2]; rfl
      have hput : ∀ k, k < ops.size → k ≠ i → valAt ops (a.put (dstOf ops i) v) k = valAt ops a k := by
        intro k hk hne
        unfold valAt
        cases hkd : dstOf ops k with
        | none => rfl
        | some dk =>
          simp only
          refine put_other _ _ _ _ fun h => ?_
          exact (hd2 dk (by rw [← hdo]; exact h)).2 k hk hne hkd
      have hsr : ∀ k, k < ops.size → (src k = k ∧ (dstOf ops k).isSome = true) ∨ (dstOf ops k = none ∧ waitsB ops k (src k) = true ∧ (dstOf ops (src k)).isSome = true) := by
        intro k hk
        unfold srcB at hsrc
        rw [List.all_eq_true] at hsrc
        have := hsrc k (List.mem_range.2 hk)
        simp only [Bool.or_eq_true, Bool.and_eq_true, beq_iff_eq, Option.isNone_iff_eq_none] at this
        rcases this with h | h
        · exact .inl h
        · exact .inr ⟨h.1.1, h.1.2, h.2⟩
      refine ih (listed.setIfInBounds i true) (a.put (dstOf ops i) v) w' (by simp [hsz]) ?_ (htrans i hlt _ _ hG hg) (fun j hj hl => by
        by_cases e : j = i
        · rw [hset, if_pos e] at hl; cases hl
        · rw [hset, if_neg e] at hl
          exact hpres i j hlt hj e _ _ hG (hPre j hj hl) hg) (by rw [← hd]; cases dstOf ops i <;> rfl) (by rw [put_size, hs]) ?_ ?_ ?_
      · have := filter_less (p := fun j => !listed.getD j true) (q := fun j => !(listed.setIfInBounds i true).getD j true) (i := i) (l := List.range ops.size) (fun x hx => by
          rw [hset] at hx
          by_cases e : x = i
          · rw [if_pos e] at hx; cases hx
          · rw [if_neg e] at hx; exact hx) (List.mem_range.2 hlt) (by rw [hun]; rfl) (by rw [hset, if_pos rfl]; rfl)
        omega
      · intro j hj hl
        by_cases e : j = i
        · subst e
          rcases hsr j hj with ⟨h1, h2⟩ | ⟨h1, h2, h3⟩
          · rw [if_pos h1] at hf
            rw [h1]
            obtain ⟨d, hdj⟩ := Option.isSome_iff_exists.1 h2
            have h3 : valAt ops (a.put (dstOf ops j) v) j = v := by
              unfold valAt
              rw [hdj]
              simp only
              exact put_same _ _ _ (by rw [hs]; exact (hd2 d (by rw [← hdo]; exact hdj)).1)
            rw [h3]
            exact hf
          · have hne : src j ≠ j := fun e => by rw [e, h1] at h3; cases h3
            rw [if_neg hne] at hf
            rw [hput _ (hw _ h2).1 hne]
            exact hf
        · rw [hset, if_neg e] at hl
          have h1 := hmono i j hlt hj (fun h => e h.symm) _ _ _ (hF j hj hl) hg
          have hne : src j ≠ i ∧ src j < ops.size := by
            rcases hsr j hj with ⟨h2, _⟩ | ⟨_, h2, h3⟩
            · rw [h2]; exact ⟨e, hj⟩
            · constructor
              · intro h
                have h4 := hC j hj hl _ h2
                rw [h, Array.getD_eq_getD_getElem?, Array.getElem?_eq_getElem hlz] at h4
                rw [Array.getD_eq_getD_getElem?, Array.getElem?_eq_getElem hlz] at hun
                simp only [Option.getD_some] at h4 hun
                rw [h4] at hun; cases hun
              · rcases Nat.lt_or_ge (src j) ops.size with h | h
                · exact h
                · unfold dstOf at h3; rw [Array.getElem?_eq_none h] at h3; cases h3
          rw [hput _ hne.2 hne.1]
          exact h1
      · intro t ht
        have h1 : dstOf ops i ≠ some t := fun h => ht i hlt (by rw [hset, if_pos rfl]) h
        rw [put_other _ _ _ _ h1]
        exact hR t fun j hj hl => ht j hj (by rw [hset]; split <;> simp_all)
      · intro j hj hl k hk
        rw [hset]
        by_cases e : k = i
        · rw [if_pos e]
        · rw [if_neg e]
          by_cases e2 : j = i
          · subst e2
            have h1 := (hw k hk)
            have h2 : k < listed.size := by omega
            have h3 := h1.2
            rw [Array.getD_eq_getD_getElem?, Array.getElem?_eq_getElem h2] at h3 ⊢
            exact h3
          · rw [hset, if_neg e2] at hl
            exact hC j hj hl k hk
  refine wp_region_any hm ?_
  refine main ops.size (Array.replicate ops.size false) a0 w0.drew (by simp) ?_ hrefl (fun j hj _ => hpre0 j hj) rfl rfl ?_ ?_ ?_
  · exact Nat.le_trans (List.length_filter_le _ _) (by simp)
  · intro j hj hl
    rw [Array.getD_eq_getD_getElem?, Array.getElem?_eq_getElem (by simpa using hj)] at hl
    simp at hl
  · intro t _; rfl
  · intro j hj hl
    rw [Array.getD_eq_getD_getElem?, Array.getElem?_eq_getElem (by simpa using hj)] at hl
    simp at hl
def putO (vals : Nat → Value) : List (Option Tmp) → Nat → Act → Act
  | [], _, a => a
  | d :: ds, k, a => putO vals ds (k + 1) (a.put d (vals k))
theorem putO_eq {ops : Array Oper} (vals : Nat → Value) : ∀ (ds : List (Option Tmp)) (n k : Nat) (a : Act), (List.range' k n).map (dstOf ops) = ds → putL ops vals (List.range' k n) a = putO vals ds k a
  | [], n, k, a, h => by
    have : n = 0 := by simpa using congrArg List.length h
    subst this; rfl
  | d :: ds, 0, k, a, h => by simp at h
  | d :: ds, n + 1, k, a, h => by
    rw [List.range'_succ, List.map_cons] at h
    injection h with h1 h2
    rw [List.range'_succ]
    unfold putL putO
    rw [h1]
    exact putO_eq vals ds n (k + 1) _ h2
def relOf (sts : List (Nat × (World → World → Prop))) (i : Nat) : World → World → Prop := match sts.find? (fun p => p.1 == i) with
  | some p => p.2
  | none => Gw
def srcOf (ss : List (Nat × Nat)) (i : Nat) : Nat := match ss.find? (fun p => p.1 == i) with
  | some p => p.2
  | none => i
theorem region_byG {id : Nat} (Fs : List (Value → World → Prop)) (sts : List (Nat × (World → World → Prop))) (ss : List (Nat × Nat)) (ds : List (Option Tmp))
    (hm : P.follows .mixedOrders = true)
    (hreg : regGB ops a0.tmps.size = true) (hsrc : srcB ops (srcOf ss) = true) (hds : (List.range' 0 ops.size).map (dstOf ops) = ds)
    (hpure : ∀ f ∈ Fs, ∀ v a b, f v a → Gw a b → f v b)
    (hst : ∀ p ∈ sts, (∀ a b, Below w0.heap.size w0 a → p.2 a b → Below w0.heap.size w0 b) ∧ ∀ f ∈ Fs.eraseIdx p.1, ∀ v a b, f v a → p.2 a b → f v b)
    (howes : AllN (fun i => OwesG P ops Q (fun w w' => Below w.heap.size w w') (relOf sts i) (fun j => Fs.getD j fun _ _ => True) (srcOf ss) a0 w0 i) ops.size 0)
    (fin : ∀ (vals : Nat → Value) (w : World), Below w0.heap.size w0 w → (∀ j, j < ops.size → (Fs.getD j fun _ _ => True) (vals (srcOf ss j)) w) → Q .normal (putO vals ds 0 a0) w) :
    (Code.region id ops true).wp P Q a0 w0 := by
  have hrel : ∀ i, relOf sts i = Gw ∨ ∃ p ∈ sts, p.1 = i ∧ relOf sts i = p.2 := by
    intro i
    unfold relOf
    cases h : sts.find? (fun p => p.1 == i) with
    | none => exact .inl rfl
    | some p => exact .inr ⟨p, List.mem_of_find?_eq_some h, by have := List.find?_some h; simpa using this, rfl⟩
  refine region_factsG (G := fun w w' => Below w.heap.size w w') (DD := relOf sts) (src := srcOf ss) (fun _ _ => True) (fun _ _ => trivial) (fun _ _ _ _ _ _ _ _ _ _ => trivial) hm (Gw.drew _) ?_ ?_ hreg hsrc (fun i hi => (howes.at_ _ _ i (by omega) (by omega)).weak) ?_
  · intro i _ a b hG hD
    rcases hrel i with h | ⟨p, hp, _, h⟩
    · rw [h] at hD; exact hG.trans (Below.mono hD hG.size)
    · rw [h] at hD; exact (hst p hp).1 a b hG hD
  · intro i j _ _ hne v a b h g
    rw [List.getD_eq_getElem?_getD] at h ⊢
    cases hj : Fs[j]? with
    | none => exact trivial
    | some f =>
      rw [hj] at h
      rcases hrel i with hr | ⟨p, hp, e, hr⟩
      · rw [hr] at g; exact hpure f (List.mem_of_getElem? hj) v a b h g
      · rw [hr] at g
        refine (hst p hp).2 f ?_ v a b h g
        rw [e]
        refine List.mem_eraseIdx_iff_getElem?.2 ⟨j, fun h => hne h.symm, hj⟩
  · intro vals w hG hF
    rw [List.range_eq_range', putO_eq vals ds ops.size 0 a0 hds]
    exact fin vals w hG hF
/-- As region_byG, with any relation to the start. -/
theorem region_byK {id : Nat} (Fs : List (Value → World → Prop)) (sts : List (Nat × (World → World → Prop))) (ss : List (Nat × Nat)) (ds : List (Option Tmp))
    (G0 : World → Prop) (hm : P.follows .mixedOrders = true) (hd0 : G0 w0.drew) (hpg : ∀ a b, G0 a → Gw a b → G0 b) (mt : Nat) (Pre : World → Prop) (hp0 : Pre w0.drew) (hpp : ∀ a b, Pre a → Gw a b → Pre b) (hmt : ∀ p ∈ sts, p.1 = mt)
    (hreg : regGB ops a0.tmps.size = true) (hsrc : srcB ops (srcOf ss) = true) (hds : (List.range' 0 ops.size).map (dstOf ops) = ds)
    (hpure : ∀ f ∈ Fs, ∀ v a b, f v a → Gw a b → f v b)
    (hst : ∀ p ∈ sts, (∀ a b, G0 a → p.2 a b → G0 b) ∧ ∀ f ∈ Fs.eraseIdx p.1, ∀ v a b, f v a → p.2 a b → f v b)
    (howes : AllN (fun i => OwesG P ops Q (fun _ w' => G0 w' ∧ (if i = mt then Pre w' else True)) (relOf sts i) (fun j => Fs.getD j fun _ _ => True) (srcOf ss) a0 w0 i) ops.size 0)
    (fin : ∀ (vals : Nat → Value) (w : World), G0 w → (∀ j, j < ops.size → (Fs.getD j fun _ _ => True) (vals (srcOf ss j)) w) → Q .normal (putO vals ds 0 a0) w) :
    (Code.region id ops true).wp P Q a0 w0 := by
  have hrel : ∀ i, relOf sts i = Gw ∨ ∃ p ∈ sts, p.1 = i ∧ relOf sts i = p.2 := by
    intro i
    unfold relOf
    cases h : sts.find? (fun p => p.1 == i) with
    | none => exact .inl rfl
    | some p => exact .inr ⟨p, List.mem_of_find?_eq_some h, by have := List.find?_some h; simpa using this, rfl⟩
  refine region_factsG (G := fun _ w' => G0 w') (DD := relOf sts) (src := srcOf ss) (fun i w => if i = mt then Pre w else True) (fun i _ => by by_cases e : i = mt; rw [if_pos e]; exact hp0; rw [if_neg e]; trivial) (fun i k _ _ hne a b _ h g => by
    by_cases e : k = mt
    · rw [if_pos e] at h ⊢
      rcases hrel i with hr | ⟨p, hp, e2, hr⟩
      · rw [hr] at g; exact hpp a b h g
      · exact absurd ((hmt p hp).symm.trans e2) (fun h2 => hne (e.trans h2))
    · rw [if_neg e]; trivial) hm hd0 ?_ ?_ hreg hsrc (fun i hi => howes.at_ _ _ i (by omega) (by omega)) ?_
  · intro i _ a b hG hD
    rcases hrel i with h | ⟨p, hp, _, h⟩
    · rw [h] at hD; exact hpg a b hG hD
    · rw [h] at hD; exact (hst p hp).1 a b hG hD
  · intro i j _ _ hne v a b h g
    rw [List.getD_eq_getElem?_getD] at h ⊢
    cases hj : Fs[j]? with
    | none => exact trivial
    | some f =>
      rw [hj] at h
      rcases hrel i with hr | ⟨p, hp, e, hr⟩
      · rw [hr] at g; exact hpure f (List.mem_of_getElem? hj) v a b h g
      · rw [hr] at g
        refine (hst p hp).2 f ?_ v a b h g
        rw [e]
        refine List.mem_eraseIdx_iff_getElem?.2 ⟨j, fun h => hne h.symm, hj⟩
  · intro vals w hG hF
    rw [List.range_eq_range', putO_eq vals ds ops.size 0 a0 hds]
    exact fin vals w hG hF
/-- A value, and what holds of the world. -/
def AndV (c : Value) (P : World → Prop) (v : Value) (w : World) : Prop := v = c ∧ P w
theorem AndV.mono {c v : Value} {P : World → Prop} {a b : World} (hP : ∀ a b, P a → Gw a b → P b) (h : AndV c P v a) (g : Gw a b) : AndV c P v b := ⟨h.1, hP a b h.2 g⟩
end
end Go.Proofs.Ytkkjnahjmomjgaa
/- Stores into boxes that a region makes: the facts, and what such a store owes. No conditions. -/
namespace Go.Proofs.Ytkkjnahjmomjgaa
set_option linter.unusedVariables false
set_option linter.unusedSimpArgs false
open Go.RowKit Go.Maps
/-- A box of n cells of type T, made since B. -/
def BoxV (T : TypeId) (n B : Nat) (v : Value) (w : World) : Prop := ∃ k cs, v = .pointer (some ⟨k, 0, none⟩) ∧ B ≤ k ∧ cs.size = n ∧ Bk w k T cs
/-- A box that holds cs. -/
def BoxC (T : TypeId) (cs : Array Value) (B : Nat) (v : Value) (w : World) : Prop := ∃ k, v = .pointer (some ⟨k, 0, none⟩) ∧ B ≤ k ∧ Bk w k T cs
/-- A store into a box of n cells of type T, made since B. -/
def StD (T : TypeId) (n B : Nat) (a b : World) : Prop := ∃ k cs cs', B ≤ k ∧ cs.size = n ∧ cs'.size = n ∧ Bk a k T cs ∧ Bk b k T cs' ∧ Kept (fun c => c = k) a b
section
variable {T T' : TypeId} {n n' B B' : Nat} {cs : Array Value} {v c : Value} {a b : World}
theorem BoxV.mono (h : BoxV T n B v a) (g : Gw a b) : BoxV T n B v b := by
  obtain ⟨k, cs, e, h1, h2, h3⟩ := h
  exact ⟨k, cs, e, h1, h2, h3.below g h3.lt⟩
theorem BoxC.mono (h : BoxC T cs B v a) (g : Gw a b) : BoxC T cs B v b := by
  obtain ⟨k, e, h1, h3⟩ := h
  exact ⟨k, e, h1, h3.below g h3.lt⟩
theorem StD.below {B0 : Nat} {w0 : World} (hB : B0 ≤ B) (h : Below B0 w0 a) (hs : B0 ≤ a.heap.size) (g : StD T n B a b) : Below B0 w0 b := by
  obtain ⟨k, _, _, h1, _, _, _, _, h2⟩ := g
  exact h.trans (h2.below hs (fun c e => by omega))
theorem IsV.st (h : IsV c v a) (_ : StD T n B a b) : IsV c v b := h
theorem bk_type {w : World} {k : Nat} {E F : TypeId} {x y : Array Value} (h1 : Bk w k E x) (h2 : Bk w k F y) : E = F ∧ x = y := by
  unfold Bk at h1 h2
  rw [h1] at h2
  injection h2 with h2
  injection h2 with h2 h3 _
  exact ⟨h3, h2⟩
theorem BoxV.st (h : BoxV T' n' B' v a) (g : StD T n B a b) : BoxV T' n' B' v b := by
  obtain ⟨k, x, e, h1, h2, h3⟩ := h
  obtain ⟨k', y, y', _, g2, g3, g4, g5, g6⟩ := g
  by_cases hk : k = k'
  · subst hk
    obtain ⟨e1, e2⟩ := bk_type h3 g4
    subst e1
    exact ⟨k, y', e, h1, by rw [g3, ← g2, ← e2, h2], g5⟩
  · exact ⟨k, x, e, h1, h2, g6.bk h3 hk⟩
theorem BoxC.st (hT : T' ≠ T) (h : BoxC T' cs B' v a) (g : StD T n B a b) : BoxC T' cs B' v b := by
  obtain ⟨k, e, h1, h3⟩ := h
  obtain ⟨k', y, y', _, g2, g3, g4, g5, g6⟩ := g
  refine ⟨k, e, h1, g6.bk h3 fun hk => ?_⟩
  subst hk
  exact hT (bk_type h3 g4).1
end
def LQ (K : Act → World → Prop) : Exit → Act → World → Prop
  | .normal, a, w => K a w
  | _, _, _ => False
section
variable {P : Program} {ops : Array Oper} {Q : Exit → Act → World → Prop} {G : World → World → Prop} {F : Nat → Value → World → Prop} {a0 : Act} {w0 : World} {src : Nat → Nat}
theorem OwesG.mk2 {i : Nat} {D : World → World → Prop} {F' : Nat → Value → World → Prop} (hs0 : src i = i) (hF' : ∀ j v w, (src j = j → F j v w) → F' j v w) (hFi : ∀ v w, F' i v w → F i v w) (h : OwesD P ops Q G D F' a0 w0 i) : OwesG P ops Q G D F src a0 w0 i := by
  intro a w hG hd hs hF hR
  refine wpOp_mono ?_ (h a w hG hd hs (fun j hj => hF' j _ _ (hF j hj)) hR)
  rintro a' w' ⟨v, e, hg, hf⟩
  exact ⟨v, e, hg, by rw [if_pos hs0]; exact hFi _ _ hf⟩
end
end Go.Proofs.Ytkkjnahjmomjgaa
/- image.Encode: the region of a Root. No conditions. -/
namespace Go.Proofs.Ytkkjnahjmomjgaa
set_option linter.unusedVariables false
set_option linter.unusedSimpArgs false
open Go.RowKit Go.Maps
set_option maxHeartbeats 4000000
set_option maxRecDepth 100000
theorem ien21 (Q : Exit → Act → World → Prop) (a0 : Act) (w : World) (g Rb i at_ : Nat) (st : ByteArray) (to : Int) (qb NN cq : Nat) (G : Nat → Prop) (K : World → Prop) (hR : Rb < w.heap.size) (hRn : ¬ G Rb) (c0 : w.cell? ⟨Rb, 0, none⟩ = some (.string st)) (c1 : w.cell? ⟨Rb, 1, none⟩ = some (.int .i64 to)) (hB : Hid (∀ W, Calls Try.prog 25 #[.int .i64 (i : Int)] W (RetP (.int .i64 (at_ : Int)) W))) (hK : ∀ a b, K a → Gw a b → K b) (hp : Hid (∀ W, Below w.heap.size w W → Calls Try.prog 29 #[.pointer (some ⟨g, 0, none⟩), .int .i64 (at_ : Int), .agg #[.string st, .int .i64 to], (.slice (some ⟨qb, 0, none⟩) NN cq)] W (fun e w2 => ∃ v, e = .returned v ∧ Kept G W w2 ∧ AndV (.int .i64 0) K v w2))) (hsz : a0.tmps.size = 84) (sl6 : a0.tmps.getD 6 undef = .pointer (some ⟨g, 0, none⟩)) (sl9 : a0.tmps.getD 9 undef = .slice (some ⟨qb, 0, none⟩) NN cq) (sl10 : a0.tmps.getD 10 undef = .int .i64 (i : Int)) (sl11 : a0.tmps.getD 11 undef = .pointer (some ⟨Rb, 0, none⟩))
    (fin : ∀ (vals : Nat → Value) (w1 : World), Kept G w w1 → (IsV (.int .i64 0)) (vals 6) w1 → (AndV (.int .i64 0) K) (vals 5) w1 → Q .normal (putO vals [some 72, some 73, some 74, some 75, some 76, some 77, some 12] 0 a0) w1) :
    (Code.region 21 (regIn Try.f10 21) true).wp Try.prog Q a0 w := by
  have hGs : ∀ (j : Nat) (v : Value) (w3 : World), (srcOf [] j = j → (([IsV (.pointer (some ⟨g, 0, none⟩)), IsV (.int .i64 (i : Int)), IsV (.int .i64 (at_ : Int)), IsV (.agg #[.string st, .int .i64 to]), IsV (.slice (some ⟨qb, 0, none⟩) NN cq), AndV (.int .i64 0) K, IsV (.int .i64 0)] : List (Value → World → Prop)).getD j fun _ _ => True) v w3) → (([IsV (.pointer (some ⟨g, 0, none⟩)), IsV (.int .i64 (i : Int)), IsV (.int .i64 (at_ : Int)), IsV (.agg #[.string st, .int .i64 to]), IsV (.slice (some ⟨qb, 0, none⟩) NN cq), AndV (.int .i64 0) K, IsV (.int .i64 0)] : List (Value → World → Prop)).getD j fun _ _ => True) v w3 := by
    intro j v w3 h
    match j, h with
    | 0, h => exact h rfl
    | 1, h => exact h rfl
    | 2, h => exact h rfl
    | 3, h => exact h rfl
    | 4, h => exact h rfl
    | 5, h => exact h rfl
    | 6, h => exact h rfl
    | _ + 7, _ => exact trivial
  refine region_byK [IsV (.pointer (some ⟨g, 0, none⟩)),
    IsV (.int .i64 (i : Int)),
    IsV (.int .i64 (at_ : Int)),
    IsV (.agg #[.string st, .int .i64 to]),
    IsV (.slice (some ⟨qb, 0, none⟩) NN cq),
    AndV (.int .i64 0) K,
    IsV (.int .i64 0)] [(5, fun w w1 => Kept G w w1)] []
    [some 72, some 73, some 74, some 75, some 76, some 77, some 12] (fun w1 => Kept G w w1) (by kernel_rfl) (Kept.of_below (Gw.drew _) _) (fun _ _ h g => h.trans (Kept.of_below g _)) 5 (fun w1 => Below w.heap.size w w1) (Gw.drew _) (fun _ _ h g => h.trans (Below.mono g h.size)) (by intro p hp; simp only [List.mem_cons, List.not_mem_nil, or_false] at hp; subst hp; rfl) (by rw [hsz]; kernel_rfl) (by kernel_rfl) (by kernel_rfl) ?_ ?_ ?_ ?_
  · intro f hf
    simp only [List.mem_cons, List.not_mem_nil, or_false] at hf
    rcases hf with rfl | rfl | rfl | rfl | rfl | rfl | rfl <;> intro v a b h g <;> first | exact IsV.mono h | exact BoxV.mono h g | exact BoxC.mono h g | exact AndV.mono hK h g
  · intro p hp
    simp only [List.mem_cons, List.not_mem_nil, or_false] at hp
    rcases hp with rfl
    · refine ⟨fun a b h1 h2 => h1.trans h2, ?_⟩
      intro f hf
      simp only [List.eraseIdx_cons_succ, List.eraseIdx_cons_zero, List.mem_cons, List.not_mem_nil, or_false] at hf
      rcases hf with rfl | rfl | rfl | rfl | rfl | rfl <;> intro v a b h g <;> exact h
  · refine ⟨?_, ?_, ?_, ?_, ?_, ?_, ?_, trivial⟩
    · refine OwesG.mk2 (D := Gw) (F' := fun j => ([IsV (.pointer (some ⟨g, 0, none⟩)), IsV (.int .i64 (i : Int)), IsV (.int .i64 (at_ : Int)), IsV (.agg #[.string st, .int .i64 to]), IsV (.slice (some ⟨qb, 0, none⟩) NN cq), AndV (.int .i64 0) K, IsV (.int .i64 0)] : List (Value → World → Prop)).getD j fun _ _ => True) rfl hGs (fun v w h => h) ?_
      exact owes_mvD gw_self 6 (by kernel_rfl) (by kernel_rfl) (by kernel_rfl) sl6 (fun _ => rfl)
    · refine OwesG.mk2 (D := Gw) (F' := fun j => ([IsV (.pointer (some ⟨g, 0, none⟩)), IsV (.int .i64 (i : Int)), IsV (.int .i64 (at_ : Int)), IsV (.agg #[.string st, .int .i64 to]), IsV (.slice (some ⟨qb, 0, none⟩) NN cq), AndV (.int .i64 0) K, IsV (.int .i64 0)] : List (Value → World → Prop)).getD j fun _ _ => True) rfl hGs (fun v w h => h) ?_
      exact owes_mvD gw_self 10 (by kernel_rfl) (by kernel_rfl) (by kernel_rfl) sl10 (fun _ => rfl)
    · refine OwesG.mk2 (D := Gw) (F' := fun j => ([IsV (.pointer (some ⟨g, 0, none⟩)), IsV (.int .i64 (i : Int)), IsV (.int .i64 (at_ : Int)), IsV (.agg #[.string st, .int .i64 to]), IsV (.slice (some ⟨qb, 0, none⟩) NN cq), AndV (.int .i64 0) K, IsV (.int .i64 0)] : List (Value → World → Prop)).getD j fun _ _ => True) rfl hGs (fun v w h => h) ?_
      refine owes_vD (Go.Op.call { callee := Go.Callee.value (Go.Operand.func 25), args := #[Go.Operand.tmp 73], argTypes := #[3] }) 3 [1] (by kernel_rfl) (by kernel_rfl) (by kernel_rfl) rfl fun vals w1 ρ hG hF hρ hcst hfun => ?_
      have e73 : ρ (.tmp 73) = .int .i64 (i : Int) := ((hρ 73).trans (slotJ [1] (by rw [hsz]; decide) (by kernel_rfl))).trans (hF 1 (by decide))
      obtain ⟨hG, _⟩ := hG
      clear hρ hF hGs hcst sl6 sl9 sl10 sl11 fin
      exact opv_enter (by go_simp <;> rfl) (of_ret (hB.out w1))
    · refine OwesG.mk2 (D := Gw) (F' := fun j => ([IsV (.pointer (some ⟨g, 0, none⟩)), IsV (.int .i64 (i : Int)), IsV (.int .i64 (at_ : Int)), IsV (.agg #[.string st, .int .i64 to]), IsV (.slice (some ⟨qb, 0, none⟩) NN cq), AndV (.int .i64 0) K, IsV (.int .i64 0)] : List (Value → World → Prop)).getD j fun _ _ => True) rfl hGs (fun v w h => h) ?_
      refine owes_vD (Go.Op.load 56 (Go.Operand.tmp 11)) 56 [] (by kernel_rfl) (by kernel_rfl) (by kernel_rfl) rfl fun vals w1 ρ hG hF hρ hcst hfun => ?_
      have e11 : ρ (.tmp 11) = .pointer (some ⟨Rb, 0, none⟩) := ((hρ 11).trans (slotO [] (by kernel_rfl))).trans sl11
      obtain ⟨hG, _⟩ := hG
      have k0 := (hG.cell (p := ⟨Rb, 0, none⟩) hR hRn).trans c0; have k1 := (hG.cell (p := ⟨Rb, 1, none⟩) hR hRn).trans c1
      clear hρ hF hGs hcst hfun sl6 sl9 sl10 sl11 fin
      exact opv_val (by go_simp <;> rfl) ⟨gw_self _, rfl⟩
    · refine OwesG.mk2 (D := Gw) (F' := fun j => ([IsV (.pointer (some ⟨g, 0, none⟩)), IsV (.int .i64 (i : Int)), IsV (.int .i64 (at_ : Int)), IsV (.agg #[.string st, .int .i64 to]), IsV (.slice (some ⟨qb, 0, none⟩) NN cq), AndV (.int .i64 0) K, IsV (.int .i64 0)] : List (Value → World → Prop)).getD j fun _ _ => True) rfl hGs (fun v w h => h) ?_
      exact owes_mvD gw_self 9 (by kernel_rfl) (by kernel_rfl) (by kernel_rfl) sl9 (fun _ => rfl)
    · refine OwesG.mk2 (D := fun w w1 => Kept G w w1) (F' := fun j => ([IsV (.pointer (some ⟨g, 0, none⟩)), IsV (.int .i64 (i : Int)), IsV (.int .i64 (at_ : Int)), IsV (.agg #[.string st, .int .i64 to]), IsV (.slice (some ⟨qb, 0, none⟩) NN cq), AndV (.int .i64 0) K, IsV (.int .i64 0)] : List (Value → World → Prop)).getD j fun _ _ => True) rfl hGs (fun v w h => h) ?_
      refine owes_vD (Go.Op.call { callee := Go.Callee.value (Go.Operand.func 29), args := #[Go.Operand.tmp 72, Go.Operand.tmp 74, Go.Operand.tmp 75, Go.Operand.tmp 76], argTypes := #[61, 3, 56, 49] }) 34 [0, 2, 3, 4] (by kernel_rfl) (by kernel_rfl) (by kernel_rfl) rfl fun vals w1 ρ hG hF hρ hcst hfun => ?_
      have e72 : ρ (.tmp 72) = .pointer (some ⟨g, 0, none⟩) := ((hρ 72).trans (slotJ [0, 2, 3, 4] (by rw [hsz]; decide) (by kernel_rfl))).trans (hF 0 (by decide))
      have e74 : ρ (.tmp 74) = .int .i64 (at_ : Int) := ((hρ 74).trans (slotJ [0, 2, 3, 4] (by rw [hsz]; decide) (by kernel_rfl))).trans (hF 2 (by decide))
      have e75 : ρ (.tmp 75) = .agg #[.string st, .int .i64 to] := ((hρ 75).trans (slotJ [0, 2, 3, 4] (by rw [hsz]; decide) (by kernel_rfl))).trans (hF 3 (by decide))
      have e76 : ρ (.tmp 76) = .slice (some ⟨qb, 0, none⟩) NN cq := ((hρ 76).trans (slotJ [0, 2, 3, 4] (by rw [hsz]; decide) (by kernel_rfl))).trans (hF 4 (by decide))
      obtain ⟨hG, hPre⟩ := hG; have hPre : Below w.heap.size w w1 := hPre
      clear hρ hF hGs hcst sl6 sl9 sl10 sl11 fin
      exact opv_enter (by go_simp <;> rfl) (hp.out w1 hPre)
    · refine OwesG.mk2 (D := Gw) (F' := fun j => ([IsV (.pointer (some ⟨g, 0, none⟩)), IsV (.int .i64 (i : Int)), IsV (.int .i64 (at_ : Int)), IsV (.agg #[.string st, .int .i64 to]), IsV (.slice (some ⟨qb, 0, none⟩) NN cq), AndV (.int .i64 0) K, IsV (.int .i64 0)] : List (Value → World → Prop)).getD j fun _ _ => True) rfl hGs (fun v w h => h) ?_
      exact owes_mvjD gw_self 5 77 (by kernel_rfl) (by kernel_rfl) (by kernel_rfl) (by kernel_rfl) (by rw [hsz]; decide) (fun v w h => h.1)
  · intro vals w1 hG hF
    exact fin vals w1 hG (hF 6 (by decide +kernel)) (hF 5 (by decide +kernel))
end Go.Proofs.Ytkkjnahjmomjgaa
/- image.Encode of any graph: its words, or why not. Conditions: lengths. -/
namespace Go.Proofs.Ytkkjnahjmomjgaa
set_option linter.unusedVariables false
set_option linter.unusedSimpArgs false
open Go.RowKit Go.Maps
set_option maxHeartbeats 8000000
set_option maxRecDepth 100000
theorem roots_all (pl : List Nat) (ns : List Nv) (rs : List Rv) (need : Nat) (h : need = endL ns (2 + 5 * rs.length)) (hp : pl = placeL ns (2 + 5 * rs.length)) : rootsW pl (frontW rs.length need) rs rs.length rs.length (ns.flatMap (nodeW pl)) = encW ns rs := by
  unfold rootsW encW
  rw [List.take_length, Nat.sub_self, h, hp]
  simp
theorem rootsW_len (pl : List Nat) (F : List (BitVec 64)) (rs : List Rv) (j : Nat) (C : List (BitVec 64)) (h32 : ∀ r ∈ rs, r.s.size ≤ 32) (hF : F.length = 2) (hj : j ≤ rs.length) : (rootsW pl F rs j rs.length C).length = 2 + 5 * rs.length + C.length := by
  unfold rootsW
  rw [List.length_append, List.length_append, List.length_append, List.length_replicate, roots_len _ _ (fun r hr => h32 r (List.mem_of_mem_take hr)), List.length_take, hF]
  omega
theorem roots_none (pl : List Nat) (rs : List Rv) (x y : BitVec 64) (C : List (BitVec 64)) : ((List.replicate (2 + 5 * rs.length) 0#64 ++ C).set 0 x).set 1 y = rootsW pl [x, y] rs 0 rs.length C := by
  unfold rootsW
  rw [List.take_zero, Nat.sub_zero, Nat.add_comm 2, List.replicate_succ, List.replicate_succ]
  rfl
theorem with_front (R t : Nat) (hR : R ≤ 64) (ht : t ≤ 8192) : withB (BitVec.ofNat 64 R) 16 32 (BitVec.ofNat 64 t) = BitVec.ofNat 64 (R + t * 65536) := by
  unfold withB
  rw [if_pos (by decide)]
  apply BitVec.eq_of_toNat_eq
  have hl : (lowB 32).toNat = 4294967295 := by decide +kernel
  have h1 : BitVec.ofNat 64 R &&& ~~~(lowB 32 <<< (16 : Int).toNat) = BitVec.ofNat 64 R := by
    apply BitVec.eq_of_getLsbD_eq
    intro i hi
    rw [BitVec.getLsbD_and, BitVec.getLsbD_not]
    by_cases h : i < 16
    · have e : (lowB 32 <<< (16 : Int).toNat).getLsbD i = false := by
        rw [BitVec.getLsbD_shiftLeft]
        have : i < (16 : Int).toNat := h
        simp [this]
        intro _ h2
        omega
      rw [e]
      simp [hi]
    · have e : (BitVec.ofNat 64 R).getLsbD i = false := by
        rw [BitVec.getLsbD_ofNat]
        have : R < 2 ^ i := Nat.lt_of_lt_of_le (show R < 2 ^ 16 by omega) (Nat.pow_le_pow_right (by decide) (by omega))
        simp [Nat.testBit_lt_two_pow this]
      rw [e]
      rfl
  have h2 : (BitVec.ofNat 64 t &&& lowB 32) = BitVec.ofNat 64 t := by
    apply BitVec.eq_of_toNat_eq
    rw [BitVec.toNat_and, hl, BitVec.toNat_ofNat, Nat.mod_eq_of_lt (by omega), show 4294967295 = 2 ^ 32 - 1 from rfl, Nat.and_two_pow_sub_one_eq_mod, Nat.mod_eq_of_lt (by omega)]
  rw [h1, h2, BitVec.toNat_or, BitVec.toNat_shiftLeft, BitVec.toNat_ofNat, BitVec.toNat_ofNat, BitVec.toNat_ofNat, Nat.mod_eq_of_lt (show R < 2 ^ 64 by omega), Nat.mod_eq_of_lt (show t < 2 ^ 64 by omega), Nat.mod_eq_of_lt (show R + t * 65536 < 2 ^ 64 by omega)]
  show R ||| (t <<< 16 % 2 ^ 64) = R + t * 65536
  rw [Nat.shiftLeft_eq, Nat.mod_eq_of_lt (by omega), Nat.or_comm, Nat.mul_comm t, ← Nat.two_pow_add_eq_or_of_lt (i := 16) (by omega) t]
  omega
theorem iencode_c (w : World) (g : Gv) (hg : g.At w w.heap.size) (hs : g.Small) : Calls Try.prog 10 #[g.v] w (EncX g w) := by
  have HCk := Lib.hid (fun W (b : Below w.heap.size w W) => check_c W g (hg.up b) hs)
  have HNd0 := fun W (b : Below w.heap.size w W) => ineed_c W g (hg.up b) hs
  obtain ⟨E, hE⟩ : ∃ E, E = EncX g w := ⟨_, rfl⟩
  have HE := Lib.hid hE
  have HG := Lib.hid (And.intro hg hs)
  obtain ⟨er, her⟩ : ∃ er, er = ckG g := ⟨_, rfl⟩
  have HEr := Lib.hid her
  rw [← her] at HCk
  obtain ⟨need, hnd⟩ : ∃ nd, nd = endL g.n (2 + 5 * g.r.length) := ⟨_, rfl⟩
  have HNd := Lib.hid (fun (h0 : ckG g = 0) W (b : Below w.heap.size w W) => show Calls Try.prog 14 #[g.v] W (RetP (.int .i64 (need : Int)) W) from by
    have h1 := wordsL_end g.n (fun x hx => ((ckG_ok h0).1 x hx).2)
    have h2 := HNd0 W b
    rw [h1, show ((2 + 5 * g.r.length : Nat) : Int) + (endL g.n 0 : Int) = (need : Int) from by rw [hnd, endL_add g.n (2 + 5 * g.r.length)]; omega] at h2
    exact h2)
  have HNn := Lib.hid hnd
  rw [← hE]
  obtain ⟨A, ca, A2, ca2, ns, rs⟩ := g
  obtain ⟨N, hN⟩ : ∃ N, N = ns.length := ⟨_, rfl⟩
  obtain ⟨M, hM⟩ : ∃ M, M = rs.length := ⟨_, rfl⟩
  have HN := Lib.hid (And.intro hN hM)
  have NI : (N : Int) ≤ 1000000 := by rw [hN]; exact Int.ofNat_le.2 hs.1
  have MI : (M : Int) ≤ 1000000 := by rw [hM]; exact Int.ofNat_le.2 hs.2.1
  unfold Gv.v Gv.vn Gv.vr at HCk HNd ⊢
  simp only at HCk HNd ⊢
  rw [← hN, ← hM] at HCk HNd ⊢
  clear hg hs hE her hnd hN hM HNd0
  go_enter Try.func10, Try.ntmps10
  go_wp2_with fail
  obtain ⟨G, hG⟩ : ∃ G, G = w.heap.size := ⟨_, rfl⟩
  obtain ⟨w1, hw1⟩ : ∃ W, W = w.alloc (.cells #[.slice A N ca, .slice A2 M ca2] 25) := ⟨_, rfl⟩
  have hbk : Bk w1 G 25 #[.slice A N ca, .slice A2 M ca2] := by rw [hw1, hG]; exact Bk.new w _ _
  have b1 : Below w.heap.size w w1 := by rw [hw1]; exact Gw.alloc w _
  rw [← hw1, ← hG]
  have H1 := Lib.hid (And.intro hbk b1)
  clear hw1 hG hbk b1
  refine Calls.mono (HCk.out w1 H1.out.2) ?_
  rintro r w2 ⟨rfl, b2⟩
  have H2 := Lib.hid (And.intro (H1.out.1.below b2 H1.out.1.lt) (H1.out.2.trans (b2.mono H1.out.2.size)))
  obtain ⟨g0, g1⟩ := H2.out.1.two
  have hGl := H2.out.1.lt
  clear b2
  by_cases he : er = 0
  · subst he
    go_wp2_with fail
    refine Calls.mono (HNd.out HEr.out.symm w2 H2.out.2) ?_
    rintro r w3 ⟨rfl, b3⟩
    have H3 := Lib.hid (And.intro (H2.out.1.below b3 H2.out.1.lt) (H2.out.2.trans (b3.mono H2.out.2.size)))
    clear b3 g0 g1 hGl
    obtain ⟨g0, g1⟩ := H3.out.1.two
    have hGl := H3.out.1.lt
    by_cases hlong : 8192 < need
    · have t1 : (8192 : Int) < (need : Int) := by omega
      have e3 : errG ⟨A, ca, A2, ca2, ns, rs⟩ = 3 := by
        unfold errG
        rw [if_pos HEr.out.symm, if_pos (by show 8192 < endL ns (2 + 5 * rs.length); have h5 : need = endL ns (2 + 5 * rs.length) := HNn.out; omega)]
      have HE3 := Lib.hid e3
      clear e3
      go_wp2_with fail
      rw [HE.out]
      exact .inl ⟨by rw [HE3.out]; decide, by rw [HE3.out]; rfl, H3.out.2⟩
    · have t1 : ¬ (8192 : Int) < (need : Int) := by omega
      have t2 : (need : Int) ≤ 8192 := by omega
      have hck := ckG_ok HEr.out.symm
      simp only at hck
      have hM64 : M ≤ 64 := by rw [HN.out.2]; exact hck.2.1
      have MJ : (M : Int) ≤ 64 := by omega
      obtain ⟨b, hb⟩ : ∃ b, b = 2 + 5 * M := ⟨_, rfl⟩
      have hneed : need = endL ns b := by rw [hb, HN.out.2]; exact HNn.out
      have hbn : b ≤ need := by rw [hneed]; exact endL_ge ns b
      have HBs := Lib.hid (fun W => ibase_c M (by omega) W)
      rw [← hb] at HBs
      have HD := Lib.hid (And.intro hck (And.intro hM64 (And.intro hb (And.intro hneed (And.intro hbn (show need ≤ 8192 by omega))))))
      have HNw := Lib.hid (new_in w3 need (by omega))
      clear hck hM64 hb hneed hbn hlong HCk HNd
      go_wp2_with fail
      refine Calls.mono HNw.out ?_
      rintro r w4 ⟨m, v, rfl, hm, b4⟩
      have H4 := Lib.hid (And.intro hm (And.intro b4 (H3.out.1.below b4 H3.out.1.lt)))
      clear hm b4 g0 g1 hGl HNw
      obtain ⟨g0, g1⟩ := H4.out.2.2.two
      have hGl := H4.out.2.2.lt
      go_wp2_with fail
      refine Calls.mono (HBs.out w4) ?_
      rintro r w5 ⟨rfl, b5⟩
      have H5 := Lib.hid (And.intro (H4.out.1.below b5) (And.intro (H4.out.2.1.trans (b5.mono H4.out.2.1.size)) (H4.out.2.2.below b5 H4.out.2.2.lt)))
      clear b5 g0 g1 hGl H4
      have HSn := Lib.hid (snew_in w5 w3.heap.size m v (List.replicate need 0#64) b need H5.out.1 HD.out.2.2.2.2.1 (by rw [List.length_replicate]; exact Nat.le_refl _) (by rw [List.length_replicate]; have := HD.out.2.2.2.2.2; omega))
      go_wp2_with fail
      refine Calls.mono HSn.out ?_
      rintro r w6 ⟨s, rfl, sp6, b6⟩
      have H6 := Lib.hid (And.intro sp6 (And.intro (H5.out.2.1.trans (b6.mono H5.out.2.1.size)) (H5.out.2.2.below b6 H5.out.2.2.lt)))
      clear sp6 b6 HSn H5
      obtain ⟨g0, g1⟩ := H6.out.2.2.two
      have hGl := H6.out.2.2.lt
      have HPn := Lib.hid (putNodes_c w6 w3.heap.size s m v ns b need ca A H6.out.1 HD.out.2.2.2.1 HD.out.2.2.2.2.2 ((HG.out.1.n.below (H3.out.2.trans (H6.out.2.1.mono H3.out.2.size))).more H3.out.2.size) HD.out.1.1)
      rw [← HN.out.1] at HPn
      go_wp2_with fail
      refine Calls.mono HPn.out ?_
      rintro r w7 ⟨pv, rfl, p7, b7⟩
      obtain ⟨S, hS⟩ : ∃ S, S = w6.heap.size := ⟨_, rfl⟩
      rw [← hS] at p7
      obtain ⟨qb, cq, eo, hqS⟩ := ow_iV_some (x := -1) (l := (placeL ns b).map (fun a : Nat => (a : Int))) p7.row
      rw [List.length_map, placeL_len] at eo
      subst eo
      have H7 := Lib.hid (And.intro p7 (And.intro (H6.out.2.1.trans b7) (H6.out.2.2.below b7 (Nat.lt_of_lt_of_le H3.out.1.lt (Nat.le_refl _)))))
      clear p7 b7 g0 g1 hGl hqS hS HPn
      obtain ⟨ws, hws⟩ : ∃ ws, ws = List.replicate b 0#64 ++ ns.flatMap (nodeW (placeL ns b)) := ⟨_, rfl⟩
      have hwl : ws.length = need := by
        rw [hws, List.length_append, List.length_replicate, nodesW_len]
        exact HD.out.2.2.2.1.symm
      rw [← hws] at H7
      have hwl2 : (ws.set 0 1296125772#64).length = need := by rw [List.length_set]; exact hwl
      have hn2 : 2 ≤ need := by have := HD.out.2.2.2.2.1; have := HD.out.2.2.1; omega
      have HSt0 := Lib.hid (fun W (mm : MemAt W w3.heap.size m v ws) => show Calls Try.prog 27 #[.pointer (some ⟨m, 0, none⟩), .int .i64 0, .int .u64 1296125772] W (fun e w' => e = .returned (.int .i64 0) ∧ MemAt w' w3.heap.size m v (ws.set 0 1296125772#64) ∧ W.grownBy w' v.ownBlock) from set_in W w3.heap.size m v ws 0 1296125772#64 (by omega) (by have := HD.out.2.2.2.2.2; omega) mm)
      obtain ⟨fr, hfr⟩ : ∃ fr, fr = BitVec.ofNat 64 (M + need * 65536) := ⟨_, rfl⟩
      have HSt1 := Lib.hid (fun W (mm : MemAt W w3.heap.size m v (ws.set 0 1296125772#64)) => show Calls Try.prog 27 #[.pointer (some ⟨m, 0, none⟩), .int .i64 1, .int .u64 (U64 fr)] W (fun e w' => e = .returned (.int .i64 0) ∧ MemAt w' w3.heap.size m v ((ws.set 0 1296125772#64).set 1 fr) ∧ W.grownBy w' v.ownBlock) from set_in W w3.heap.size m v (ws.set 0 1296125772#64) 1 fr (by omega) (by have := HD.out.2.2.2.2.2; omega) mm)
      have HWi := Lib.hid (fun W => show Ans Try.prog 28 #[.int .u64 (M : Int), .int .i64 16, .int .i64 32, .int .u64 (need : Int)] W (.int .u64 (U64 fr)) from by
        have h := with_c (BitVec.ofNat 64 M) 16 32 (BitVec.ofNat 64 need) W
        rw [with_front M need HD.out.2.1 HD.out.2.2.2.2.2, ← hfr, ofNat_U64 M (by have := HD.out.2.1; omega), ofNat_U64 need (by have := HD.out.2.2.2.2.2; omega)] at h
        exact h)
      have hro := roots_none (placeL ns b) rs 1296125772#64 fr (ns.flatMap (nodeW (placeL ns b)))
      rw [← HN.out.2, ← HD.out.2.2.1, ← hws] at hro
      have HRo := Lib.hid (And.intro hro (And.intro hfr hwl))
      clear hws hwl hwl2 hn2 hfr hro H6
      go_wp2_with fail
      refine Calls.mono (HSt0.out w7 H7.out.1.sp.mem) ?_
      rintro r w8 ⟨rfl, m8, g8⟩
      have H8 := Lib.hid (show PuAt w8 w3.heap.size s m v (ws.set 0 1296125772#64) b need need S (.slice (some ⟨qb, 0, none⟩) (ns.length + 1) cq) (plI ns b) ∧ Below w3.heap.size w3 w8 from
        ⟨H7.out.1.two (H7.out.1.sp.memTo m8 g8 List.length_set) (Two.grown g8), H7.out.2.1.trans (H7.out.1.sp.mem.own g8)⟩)
      clear m8 g8 H7 HSt0
      have hb8 := H3.out.1.below H8.out.2 H3.out.1.lt
      obtain ⟨g0, g1⟩ := hb8.two
      have hGl := hb8.lt
      clear hb8
      go_wp2_with fail
      refine Calls.mono (HWi.out w8) ?_
      rintro r w9 ⟨rfl, hb9⟩
      have H9 := Lib.hid (show PuAt w9 w3.heap.size s m v (ws.set 0 1296125772#64) b need need S (.slice (some ⟨qb, 0, none⟩) (ns.length + 1) cq) (plI ns b) ∧ Below w3.heap.size w3 w9 from
        ⟨H8.out.1.below (hb9.below _), H8.out.2.trans (hb9.below _)⟩)
      clear hb9 H8 HWi g0 g1 hGl
      go_wp2_with fail
      refine Calls.mono (HSt1.out w9 H9.out.1.sp.mem) ?_
      rintro r w10 ⟨rfl, m10, g10⟩
      have HS0 : Hid (PuAt w10 w3.heap.size s m v (rootsW (placeL ns b) (frontW M need) rs 0 M (ns.flatMap (nodeW (placeL ns b)))) b need need S (.slice (some ⟨qb, 0, none⟩) (ns.length + 1) cq) (plI ns b) ∧ Below w3.heap.size w3 w10) := Lib.hid
        ⟨H9.out.1.two (by
          have h1 := H9.out.1.sp.memTo m10 g10 List.length_set
          rw [HRo.out.1, HRo.out.2.1] at h1
          exact h1) (Two.grown g10), H9.out.2.trans (H9.out.1.sp.mem.own g10)⟩
      clear m10 g10 H9 HSt1
      have hb10 := H3.out.1.below HS0.out.2 H3.out.1.lt
      obtain ⟨g0, g1⟩ := hb10.two
      have hGl := hb10.lt
      clear hb10
      go_wp2_with fail
      clear g0 g1 hGl
      go_loopw [67] (fun x W => ∃ j : Nat, x = .int .i64 j ∧ j ≤ M ∧ Hid (PuAt W w3.heap.size s m v (rootsW (placeL ns b) (frontW M need) rs j M (ns.flatMap (nodeW (placeL ns b)))) b need need S (.slice (some ⟨qb, 0, none⟩) (ns.length + 1) cq) (plI ns b) ∧ Below w3.heap.size w3 W)) (fun x _ => M - (Go.RowKit.intOf x).toNat)
      case atStart => exact ⟨0, rfl, Nat.zero_le _, HS0⟩
      case round =>
        obtain ⟨j, rfl, hj, hS⟩ := hrel
        clear HS0
        have p0 : (0 : Int) ≤ (j : Int) := by omega
        obtain ⟨e1, e2⟩ := hS.out
        have hww : Below w.heap.size w wr := H3.out.2.trans (e2.mono H3.out.2.size)
        by_cases hlt : j < M
        · have p1 : (j : Int) < (M : Int) := by omega
          have hjl : j < rs.length := by rw [← HN.out.2]; exact hlt
          obtain ⟨x, hx⟩ : ∃ x, x = rs[j] := ⟨_, rfl⟩
          obtain ⟨ad, rfl, hc2, hc3⟩ : ∃ ad, A2 = some ad ∧ wr.cell? (ad.add (j * 2)) = some (.string x.s) ∧ wr.cell? ⟨(ad.add (j * 2)).block, (ad.add (j * 2)).off + 1, none⟩ = some (.int .i64 x.t) := by
            obtain ⟨ad, e, _, h1, h2⟩ := (HG.out.1.r.below hww) j hjl
            exact ⟨ad, e, by rw [hx]; exact h1, by rw [hx]; exact h2⟩
          obtain ⟨x1, x2⟩ := HD.out.1.2.2 x (by rw [hx]; exact List.getElem_mem hjl)
          obtain ⟨a, ha⟩ : ∃ a, a = 2 + 5 * j := ⟨_, rfl⟩
          have hlen := rootsW_len (placeL ns b) (frontW M need) rs j (ns.flatMap (nodeW (placeL ns b))) (fun r hr => (goodS_size (HD.out.1.2.2 r hr).1).2) rfl (by omega)
          have hnl := nodesW_len (placeL ns b) ns b
          have hln : (rootsW (placeL ns b) (frontW M need) rs j M (ns.flatMap (nodeW (placeL ns b)))).length = need := by
            rw [HN.out.2] at *
            rw [hlen, ← HD.out.2.2.1, hnl]
            exact HD.out.2.2.2.1.symm
          have hst := root_step (placeL ns b) (frontW M need) (ns.flatMap (nodeW (placeL ns b))) rs j a hjl (fun r hr => (goodS_size (HD.out.1.2.2 r hr).1).2) rfl ha
          rw [← HN.out.2, ← hx] at hst
          have HPr := Lib.hid (fun W (q : PuAt W w3.heap.size s m v (rootsW (placeL ns b) (frontW M need) rs j M (ns.flatMap (nodeW (placeL ns b)))) b need need S (.slice (some ⟨qb, 0, none⟩) (ns.length + 1) cq) (plI ns b)) => putRoot_c W w3.heap.size s m S b need need a b qb cq v _ ns q x x1 x2 (by have := HD.out.2.2.2.1; have := HD.out.2.2.2.2.2; omega) (by rw [hln]; have := HD.out.2.2.2.2.1; have := HD.out.2.2.1; omega) (by rw [hln]; exact HD.out.2.2.2.2.2))
          rw [hst] at HPr
          have HBj := Lib.hid (fun W => ibase_c j (by have := HD.out.2.1; omega) W)
          rw [← ha] at HBj
          obtain ⟨st, to⟩ := x
          unfold Rv.v at HPr
          simp only at hc2 hc3 HPr
          have H0 := Lib.hid (And.intro e1 e2)
          obtain ⟨NN, hNN⟩ : ∃ NN, NN = ns.length + 1 := ⟨_, rfl⟩
          rw [← hNN] at HPr H0 ⊢
          clear hx e1 e2 hS x1 x2 hlen hnl hln hst hww hj ha hjl
          go_wp2_with fail
          obtain ⟨Rb, hRb⟩ : ∃ R, R = wr.heap.size := ⟨_, rfl⟩
          obtain ⟨w12, hw12⟩ : ∃ W, W = wr.alloc (.cells #[.string st, .int .i64 to] 56) := ⟨_, rfl⟩
          have hbk : Bk w12 Rb 56 #[.string st, .int .i64 to] := by rw [hw12, hRb]; exact Bk.new wr _ _
          have b12 : Below wr.heap.size wr w12 := by rw [hw12]; exact Gw.alloc wr _
          rw [← hw12, ← hRb]
          have H12 := Lib.hid (show PuAt w12 w3.heap.size s m v (rootsW (placeL ns b) (frontW M need) rs j M (ns.flatMap (nodeW (placeL ns b)))) b need need S (.slice (some ⟨qb, 0, none⟩) NN cq) (plI ns b) ∧ Below w3.heap.size w3 w12 from ⟨H0.out.1.below b12, H0.out.2.trans (b12.mono H0.out.1.sp.mem.le)⟩)
          have hRn : ¬ (Rb = s ∨ some Rb = v.ownBlock) := by
            rintro (h | h)
            · have h1 := H0.out.1.sp.blk.lt; omega
            · have h1 := (H0.out.1.sp.mem.row.lt Rb h.symm).2; omega
          obtain ⟨c0, c1⟩ := hbk.two
          have hRl := hbk.lt
          clear hbk b12 hw12 hRb hc2 hc3
          refine ien21 _ _ _ m Rb j a st to qb NN cq (fun k => k = s ∨ some k = v.ownBlock) (fun z => PuAt z w3.heap.size s m v (rootsW (placeL ns b) (frontW M need) rs (j + 1) M (ns.flatMap (nodeW (placeL ns b)))) b need need S (.slice (some ⟨qb, 0, none⟩) NN cq) (plI ns b) ∧ Below w3.heap.size w3 z) hRl hRn c0 c1 HBj (fun _ _ h g => ⟨h.1.below g, h.2.trans (g.mono h.1.sp.mem.le)⟩) (Lib.hid (fun W b => (HPr.out W (H12.out.1.below b)).mono fun r' w' h => ⟨_, h.1, im_twokept h.2.2.2, rfl, h.2.1, (H12.out.2.trans (b.mono H12.out.1.sp.mem.le)).trans h.2.2.1⟩)) rfl ?_ ?_ ?_ ?_ ?_
          · rfl
          · rfl
          · rfl
          · rfl
          intro vals w13 hG h12 hcall
          unfold IsV at h12
          simp only [putO, Act.put, List.setIfInBounds_toArray, List.set_cons_zero, List.set_cons_succ, h12]
          have HN13 := Lib.hid hcall.2
          clear hG h12 hcall c0 c1 hRl hRn H12 H0 HPr HBj
          go_wp2_with fail
          go_roundw
          case rel => exact ⟨j + 1, by go_num, by omega, HN13⟩
          case measure => simp [Go.RowKit.intOf]; omega
        · have p1 : ¬ (j : Int) < (M : Int) := by omega
          have hjM : j = rs.length := by have := HN.out.2; omega
          have hra := roots_all (placeL ns b) ns rs need (by have h := HD.out.2.2.2.1; rw [HD.out.2.2.1, HN.out.2] at h; exact h) (by rw [HD.out.2.2.1, HN.out.2])
          rw [hjM, HN.out.2, hra] at e1
          have HWd := Lib.hid (words_c wr w3.heap.size m v (encW ns rs) e1.sp.mem (by have h1 := e1.sp.te; have h2 := hra; have := encW_len ns rs (fun r hr => (goodS_size (HD.out.1.2.2 r hr).1).2); have h5 : need = endL ns (2 + 5 * rs.length) := HNn.out; have := HD.out.2.2.2.2.2; omega))
          have HF := Lib.hid hww
          clear e1 e2 hS hj hjM hra hww
          go_wp2_with fail
          refine Calls.mono HWd.out ?_
          rintro r w14 ⟨A14, c14, rfl, hc14, ho14, b14⟩
          have H14 := Lib.hid (And.intro ho14 b14)
          clear ho14 b14 hc14
          go_wp2_with fail
          rw [HE.out]
          exact .inr ⟨HEr.out.symm, by have h5 : need = endL ns (2 + 5 * rs.length) := HNn.out; have := HD.out.2.2.2.2.2; show endL ns (2 + 5 * rs.length) ≤ 8192; omega, _, rfl, H14.out.1.mono HF.out.size, HF.out.trans (H14.out.2.mono HF.out.size)⟩
  · have e1 : (er != 0) = true := by simpa using he
    have HEn := Lib.hid he
    clear he
    have e3 : errG ⟨A, ca, A2, ca2, ns, rs⟩ = er := by
      unfold errG
      rw [if_neg (by rw [← HEr.out]; exact HEn.out), ← HEr.out]
    have HE3 := Lib.hid e3
    clear e3
    go_wp2_with fail
    rw [HE.out]
    exact .inl ⟨by rw [HE3.out]; exact HEn.out, by rw [HE3.out]; rfl, H2.out.2⟩
end Go.Proofs.Ytkkjnahjmomjgaa
