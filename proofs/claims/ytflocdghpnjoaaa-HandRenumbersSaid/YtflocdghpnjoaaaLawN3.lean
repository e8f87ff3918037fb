/- The law HandRenumbers of layer 20 returns true for every argument. No conditions. -/
import Derived.Test.YtflocdghpnjoaaaHdH
import Derived.Test.YtflocdghpnjoaaaFrame
namespace Go.Proofs.Ytflocdghpnjoaaa
set_option linter.unusedVariables false
set_option linter.unusedSimpArgs false
open Go.RowKit Go.Maps
def m20 (x : BitVec 8) : Nat := x.toNat % 20
def nodL (ns : List (BitVec 8)) (n : Nat) : List (Int × Int) := (List.range n).map fun i => (((i + 1 : Nat) : Int), 1 + (m20 (ns.getD i 0#8) : Int))
theorem nodL_succ (ns : List (BitVec 8)) (n : Nat) : nodL ns (n + 1) = nodL ns n ++ [(((n + 1 : Nat) : Int), 1 + (m20 (ns.getD n 0#8) : Int))] := by unfold nodL; rw [List.range_succ, List.map_append]; rfl
theorem nodL_len (ns : List (BitVec 8)) (n : Nat) : (nodL ns n).length = n := by simp [nodL]
theorem nodL_at (ns : List (BitVec 8)) (n j : Nat) (hj : j < (nodL ns n).length) : (nodL ns n)[j] = (((j + 1 : Nat) : Int), 1 + (m20 (ns.getD j 0#8) : Int)) := by simp [nodL]
def numL (xs : List (BitVec 8)) : List Int := xs.map fun x => (m20 x : Int)
theorem ow_ad {α : Type} {f : α → Value} {E : TypeId} {w : World} {base n c : Nat} {A : Option Addr} {xs : List α} (h : Ow f E w base (.slice A n c) xs) : ∀ a, A = some a → base ≤ a.block ∧ a.block < w.heap.size := by
  rintro a rfl
  rcases h.2 with ⟨e, _⟩ | ⟨g, cap, cur, e, hB, hh, _⟩
  · cases e
  · injection e with e1
    injection e1 with e1
    subst e1
    refine ⟨hB, ?_⟩
    rcases Nat.lt_or_ge g w.heap.size with hl | hl
    · exact hl
    · rw [Array.getElem?_eq_none hl] at hh; cases hh
theorem Ow.rd2 {α : Type} {f : α → Value} {E : TypeId} {w : World} {base n c : Nat} {A : Option Addr} {xs : List α} (h : Ow f E w base (.slice A n c) xs) : Rd f w w.heap.size A xs := by
  obtain ⟨A', c', e, _⟩ := h.form
  injection e with e1 e2 e3
  subst e2
  exact h.rd
/-- Renumbered twice. -/
def F2 (to t2 : List Int) (p : Int × Int) : Option (Int × Int) := (renF to p).bind (renF t2)
theorem F2_eq (to t2 : List Int) (l : List (Int × Int)) : renL t2 (renL to l) = l.filterMap (F2 to t2) := by
  unfold renL; rw [List.filterMap_filterMap]; rfl
theorem F2_key {to t2 : List Int} {p q : Int × Int} (h : F2 to t2 p = some q) : q.1 = p.1 := by
  unfold F2 at h
  cases hr : renF to p with
  | none => rw [hr] at h; cases h
  | some r =>
    rw [hr] at h
    have h1 := (ren_key (show renF t2 r = some q from h)).1
    have h2 := (ren_key hr).1
    exact h1.trans h2
theorem look_fm {F : Int × Int → Option (Int × Int)} (hF : ∀ p q, F p = some q → q.1 = p.1) {l : List (Int × Int)} (h : Rise l) (j : Nat) (hj : j < l.length) : lookI (l.filterMap F) l[j].1 = (F l[j]).map (·.2) := by
  obtain ⟨c1, c2⟩ := h.cut j hj
  have e : l.filterMap F = (l.take j).filterMap F ++ ([l[j]].filterMap F ++ (l.drop (j + 1)).filterMap F) := by
    rw [← List.filterMap_append, ← List.filterMap_append]
    congr 1
    rw [List.singleton_append, List.getElem_cons_drop, List.take_append_drop]
  have h1 : ∀ p ∈ (l.take j).filterMap F, p.1 < l[j].1 := fun p hp => by
    obtain ⟨r, hr, hq⟩ := List.mem_filterMap.1 hp
    rw [hF _ _ hq]; exact c1 r hr
  have h2 : ∀ p ∈ (l.drop (j + 1)).filterMap F, l[j].1 < p.1 := fun p hp => by
    obtain ⟨r, hr, hq⟩ := List.mem_filterMap.1 hp
    rw [hF _ _ hq]; exact c2 r hr
  rw [e]
  cases hf : F l[j] with
  | none =>
    have e1 : [l[j]].filterMap F = [] := by simp [hf]
    rw [e1]
    refine look_none _ _ fun p hp => ?_
    rw [List.nil_append] at hp
    rcases List.mem_append.1 hp with hp | hp
    · have := h1 p hp; omega
    · have := h2 p hp; omega
  | some q =>
    have e1 : [l[j]].filterMap F = [q] := by simp [hf]
    rw [e1]
    have hk := hF l[j] q hf
    have e2 : q = (l[j].1, q.2) := Prod.ext hk rfl
    rw [e2, List.singleton_append]
    exact look_mid _ _ _ _ h1
def cnt2 (to t2 : List Int) (ns : List (BitVec 8)) (i : Nat) : Nat := ((nodL ns i).filterMap (F2 to t2)).length
theorem cnt2_none {to t2 : List Int} {ns : List (BitVec 8)} {i : Nat} (h : F2 to t2 (((i + 1 : Nat) : Int), 1 + (m20 (ns.getD i 0#8) : Int)) = none) : cnt2 to t2 ns (i + 1) = cnt2 to t2 ns i := by
  unfold cnt2; rw [nodL_succ, List.filterMap_append, List.filterMap_cons_none h, List.filterMap_nil, List.append_nil]
theorem cnt2_some {to t2 : List Int} {ns : List (BitVec 8)} {i : Nat} {q : Int × Int} (h : F2 to t2 (((i + 1 : Nat) : Int), 1 + (m20 (ns.getD i 0#8) : Int)) = some q) : cnt2 to t2 ns (i + 1) = cnt2 to t2 ns i + 1 := by
  unfold cnt2; rw [nodL_succ, List.filterMap_append, List.filterMap_cons_some h, List.filterMap_nil, List.length_append]; rfl
theorem cnt2_le (to t2 : List Int) (ns : List (BitVec 8)) (i : Nat) : cnt2 to t2 ns i ≤ i := by
  have := List.length_filterMap_le (F2 to t2) (nodL ns i)
  rw [nodL_len] at this; exact this
theorem renF_at (to : List Int) (k : Int) (v : Nat) : renF to (k, 1 + (v : Int)) = if to.length ≤ v then none else if to.getD v 0 < 1 then none else some (k, to.getD v 0) := by
  unfold renF
  simp only
  rw [show (1 + (v : Int) - 1).toNat = v by omega]
  by_cases hq : to.length ≤ v
  · rw [if_pos hq, if_pos (by omega)]
  · rw [if_neg hq, if_neg (by omega)]
theorem numL_len (xs : List (BitVec 8)) : (numL xs).length = xs.length := by simp [numL]
theorem numL_at (xs : List (BitVec 8)) (v : Nat) (h : v < (numL xs).length) : ∃ p : Nat, p ≤ 19 ∧ (numL xs)[v] = (p : Int) := by
  have h' : v < xs.length := by rwa [numL_len] at h
  exact ⟨m20 xs[v], by unfold m20; omega, by simp [numL]⟩
theorem numL_max (xs : List (BitVec 8)) : ∀ x ∈ numL xs, x ≤ 9223372036854775807 := by
  intro x hx
  obtain ⟨y, _, rfl⟩ := List.mem_map.1 hx
  unfold m20; omega
set_option maxHeartbeats 400000
set_option maxRecDepth 100000
theorem renums_out (w : World) (A B C : Option Addr) (a b c ca cb cc : Nat) (h : 60 < a ∨ 60 < b ∨ 60 < c) (ha : a ≤ maxLen) (hb : b ≤ maxLen) (hc : c ≤ maxLen) : Calls Try.prog 5 #[.slice A a ca, .slice B b cb, .slice C c cc] w (TruP (.bool true) w) := by
  obtain ⟨r1, t1⟩ : ∃ r, decide ((60 : Int) < (a : Int)) = r := ⟨_, rfl⟩
  obtain ⟨r2, t2⟩ : ∃ r, decide ((60 : Int) < (b : Int)) = r := ⟨_, rfl⟩
  obtain ⟨r3, t3⟩ : ∃ r, decide ((60 : Int) < (c : Int)) = r := ⟨_, rfl⟩
  have hr : (r1 || (r2 || r3)) = true := by rw [← t1, ← t2, ← t3]; simp; omega
  clear h ha hb hc
  cases r1 <;> cases r2 <;> cases r3 <;> first | (exact absurd hr (by decide)) | skip
  all_goals
    clear hr
    go_enter Try.func5, Try.ntmps5
    go_wp2_with fail
    refine Calls.mono (known20_c w) ?_
    rintro e w1 ⟨rfl, b1⟩
    have HB := Lib.hid b1
    clear b1
    go_wp2_with fail
    go_ret
    exact ⟨rfl, HB.out⟩
theorem renums_in (w : World) (A B C : Option Addr) (ns xs ys : List (BitVec 8)) (ca cb cc : Nat) (h1 : ns.length ≤ 60) (h2 : xs.length ≤ 60) (h3 : ys.length ≤ 60) (hr1 : Rd b8 w w.heap.size A ns) (hr2 : Rd b8 w w.heap.size B xs) (hr3 : Rd b8 w w.heap.size C ys) : Calls Try.prog 5 #[.slice A ns.length ca, .slice B xs.length cb, .slice C ys.length cc] w (TruP (.bool true) w) := by
  have HR := Lib.hid (And.intro hr1 (And.intro hr2 hr3))
  obtain ⟨n, hn⟩ : ∃ n, n = ns.length := ⟨_, rfl⟩
  obtain ⟨a, ha⟩ : ∃ n, n = xs.length := ⟨_, rfl⟩
  obtain ⟨b, hb⟩ : ∃ n, n = ys.length := ⟨_, rfl⟩
  rw [← hn, ← ha, ← hb]
  rw [← hn] at h1
  rw [← ha] at h2
  rw [← hb] at h3
  have HN := Lib.hid (And.intro hn (And.intro ha hb))
  have t1 : decide ((60 : Int) < (n : Int)) = false := by simp; omega
  have t2 : decide ((60 : Int) < (a : Int)) = false := by simp; omega
  have t3 : decide ((60 : Int) < (b : Int)) = false := by simp; omega
  have q1 : (n : Int) ≤ 60 := by omega
  have q2 : (a : Int) ≤ 60 := by omega
  have q3 : (b : Int) ≤ 60 := by omega
  clear hr1 hr2 hr3 hn ha hb
  go_enter Try.func5, Try.ntmps5
  go_wp2_with fail
  refine Calls.mono (known20_c w) ?_
  rintro e w1 ⟨rfl, b1⟩
  have HB1 := Lib.hid b1
  clear b1
  go_wp2_with fail
  refine Calls.mono (hnew_b w1) ?_
  rintro e w2 ⟨g, rfl, h2', b2⟩
  have HB2 := Lib.hid b2
  have HT2 := Lib.hid h2'
  clear b2 h2'
  go_wp2_with fail
  go_loopw [8] (fun i wr => ∃ k : Nat, k ≤ n ∧ i = .int .i64 k ∧ TabB w1.heap.size wr g (nodL ns k) k ∧ Below w1.heap.size w1 wr) (fun i _ => n - (intOf i).toNat)
  case atStart => exact ⟨0, by omega, rfl, HT2.out, HB2.out⟩
  case round =>
    obtain ⟨k, hk, rfl, ht, hB⟩ := hrel
    by_cases hlt : k < n
    · have p1 : (0 : Int) ≤ (k : Int) := by omega
      have p2 : (k : Int) < (n : Int) := by omega
      have hsl : k < ns.length := by rw [← HN.out.1]; exact hlt
      obtain ⟨ad, rfl, hadb, hcl0⟩ := (HR.out.1.below (HB1.out.trans (hB.mono HB1.out.size))) k hsl
      have hgd : ns.getD k 0#8 = ns[k] := by rw [List.getD_eq_getElem?_getD, List.getElem?_eq_getElem hsl]; rfl
      obtain ⟨q, hq⟩ : ∃ q : Nat, q = (ns[k]).toNat := ⟨_, rfl⟩
      have hq2 : q < 256 := by rw [hq]; exact (ns[k]).isLt
      have hcl : wr.cell? (ad.add k) = some (.int .u8 (q : Int)) := by rw [hcl0, hq]; rfl
      have hm : m20 (ns.getD k 0#8) = q % 20 := by rw [hgd]; unfold m20; rw [hq]
      have q4 : (0 : Int) ≤ (q : Int) := by omega
      have q5 : (q : Int) ≤ 255 := by omega
      have q6 : (0 : Int) ≤ (q : Int) % 20 := by omega
      have q7 : (q : Int) % 20 ≤ 19 := by omega
      have HM := Lib.hid hm
      have HO := Lib.hid (hopen_b ht hB.size (1 + (q : Int) % 20) (by omega) (by omega) (by rw [nodL_len]; omega) (by omega))
      have HB := Lib.hid hB
      clear ht hB hgd hq hm hq2 hcl0
      go_wp2_with fail
      refine Calls.mono HO.out ?_
      rintro e w3 ⟨rfl, h3, b3⟩
      have H3 := Lib.hid (show TabB w1.heap.size w3 g (nodL ns (k + 1)) (k + 1) from by rw [nodL_succ, HM.out]; exact h3)
      have HB3 := Lib.hid (HB.out.trans b3)
      clear h3 b3 HO
      go_wp2_with fail
      go_roundw
      case rel => exact ⟨k + 1, by omega, by go_num, H3.out, HB3.out⟩
      case measure => (first | (simp [intOf]; done) | (simp [intOf]; omega))
    · obtain rfl : k = n := by omega
      obtain ⟨mb, ht1, ht2⟩ := ht
      have HT := Lib.hid ht1
      have HG := Lib.hid ht2
      have HB := Lib.hid hB
      obtain ⟨w5, hw5⟩ : ∃ x, x = wr := ⟨_, rfl⟩
      rw [← hw5] at HT HB ⊢
      clear ht1 ht2 hB hlt hw5 HT2 HB2
      go_wp2_with fail
      go_loopw [11, 13] (fun v i wr => ∃ j : Nat, j ≤ a ∧ i = .int .i64 j ∧ Ow i64 3 wr w5.heap.size v ((numL xs).take j) ∧ Below w5.heap.size w5 wr) (fun _ i _ => a - (intOf i).toNat)
      case atStart => exact ⟨0, by omega, rfl, Ow.nil_ _ _ _ _, Below.refl _ _⟩
      case round =>
        obtain ⟨j, hj, rfl, how, hB2⟩ := hrel
        by_cases hlt : j < a
        · have p1 : (0 : Int) ≤ (j : Int) := by omega
          have p2 : (j : Int) < (a : Int) := by omega
          have hsl : j < xs.length := by rw [← HN.out.2.1]; exact hlt
          obtain ⟨ad, rfl, hadb, hcl0⟩ := (HR.out.2.1.below (HB1.out.trans ((HB.out.trans (hB2.mono HB.out.size)).mono HB1.out.size))) j hsl
          have hsn : (numL xs).take (j + 1) = (numL xs).take j ++ [((xs[j].toNat % 20 : Nat) : Int)] := by
            rw [List.take_succ_eq_append_getElem (by simpa [numL] using hsl)]; simp [numL, m20]
          have htl : ((numL xs).take j).length ≤ 60 := by rw [List.length_take]; omega
          obtain ⟨q, hq⟩ : ∃ q : Nat, q = (xs[j]).toNat := ⟨_, rfl⟩
          have hq2 : q < 256 := by rw [hq]; exact (xs[j]).isLt
          have hcl : wr.cell? (ad.add j) = some (.int .u8 (q : Int)) := by rw [hcl0, hq]; rfl
          rw [← hq] at hsn
          have q4 : (0 : Int) ≤ (q : Int) := by omega
          have q5 : (q : Int) ≤ 255 := by omega
          have q6 : (0 : Int) ≤ (q : Int) % 20 := by omega
          have q7 : (q : Int) % 20 ≤ 19 := by omega
          have HS := Lib.hid hsn
          have HTL := Lib.hid htl
          have HOW := Lib.hid how
          have HBB := Lib.hid hB2
          clear hsn htl how hB2 hq hq2 hadb hcl0
          go_wp2_with (at_builtin; refine wp_app oneI i64_one rfl (.tmp 65) (.tmp 72) rfl w5.heap.size _ _ rfl (HOW.out.alloc _) (some ⟨wr.heap.size, 0, none⟩) 1 1 [((q : Int) % 20)] rfl rfl (wr.heap.size + 1) (rd1_new rfl) (by have := HTL.out; simp only [List.length_cons, List.length_nil]; omega) (by decide) (by have := HBB.out.size; simp; omega) ?_; intro v4 w4 ho4 hb4 hg4 hv4; have HO4 := Lib.hid ho4; have HB4 := Lib.hid (HBB.out.trans ((Below.refl _ _).alloc HBB.out.size _ |>.trans hb4)); clear ho4 hb4 hg4 hv4)
          go_roundw
          case rel => exact ⟨j + 1, by omega, by go_num, by rw [HS.out]; exact HO4.out, HB4.out⟩
          case measure => (first | (simp [intOf]; done) | (simp [intOf]; omega))
        · obtain rfl : j = a := by omega
          rw [List.take_of_length_le (by simp only [numL, List.length_map]; rw [← HN.out.2.1]; omega)] at how
          obtain ⟨AX, cx, rfl, hcx⟩ := how.form
          rw [show (numL xs).length = j by simp only [numL, List.length_map]; rw [← HN.out.2.1]] at how ⊢
          have HOX := Lib.hid how
          have HBX := Lib.hid hB2
          obtain ⟨w6, hw6⟩ : ∃ x, x = wr := ⟨_, rfl⟩
          rw [← hw6] at HOX HBX ⊢
          clear how hB2 hlt hw6 hcx
          go_wp2_with fail
          go_loopw [12, 14] (fun v i wr => ∃ m : Nat, m ≤ b ∧ i = .int .i64 m ∧ Ow i64 3 wr w6.heap.size v ((numL ys).take m) ∧ Below w6.heap.size w6 wr) (fun _ i _ => b - (intOf i).toNat)
          case atStart => exact ⟨0, by omega, rfl, Ow.nil_ _ _ _ _, Below.refl _ _⟩
          case round =>
            obtain ⟨m, hm, rfl, how, hB2⟩ := hrel
            by_cases hlt : m < b
            · have p1 : (0 : Int) ≤ (m : Int) := by omega
              have p2 : (m : Int) < (b : Int) := by omega
              have hsl : m < ys.length := by rw [← HN.out.2.2]; exact hlt
              obtain ⟨ad, rfl, hadb, hcl0⟩ := (HR.out.2.2.below (HB1.out.trans ((HB.out.trans (((HBX.out.trans (hB2.mono HBX.out.size))).mono HB.out.size)).mono HB1.out.size))) m hsl
              have hsn : (numL ys).take (m + 1) = (numL ys).take m ++ [((ys[m].toNat % 20 : Nat) : Int)] := by
                rw [List.take_succ_eq_append_getElem (by simpa [numL] using hsl)]; simp [numL, m20]
              have htl : ((numL ys).take m).length ≤ 60 := by rw [List.length_take]; omega
              obtain ⟨q, hq⟩ : ∃ q : Nat, q = (ys[m]).toNat := ⟨_, rfl⟩
              have hq2 : q < 256 := by rw [hq]; exact (ys[m]).isLt
              have hcl : wr.cell? (ad.add m) = some (.int .u8 (q : Int)) := by rw [hcl0, hq]; rfl
              rw [← hq] at hsn
              have q4 : (0 : Int) ≤ (q : Int) := by omega
              have q5 : (q : Int) ≤ 255 := by omega
              have q6 : (0 : Int) ≤ (q : Int) % 20 := by omega
              have q7 : (q : Int) % 20 ≤ 19 := by omega
              have HS := Lib.hid hsn
              have HTL := Lib.hid htl
              have HOW := Lib.hid how
              have HBB := Lib.hid hB2
              clear hsn htl how hB2 hq hq2 hadb hcl0
              go_wp2_with (at_builtin; refine wp_app oneI i64_one rfl (.tmp 80) (.tmp 87) rfl w6.heap.size _ _ rfl (HOW.out.alloc _) (some ⟨wr.heap.size, 0, none⟩) 1 1 [((q : Int) % 20)] rfl rfl (wr.heap.size + 1) (rd1_new rfl) (by have := HTL.out; simp only [List.length_cons, List.length_nil]; omega) (by decide) (by have := HBB.out.size; simp; omega) ?_; intro v4 w4 ho4 hb4 hg4 hv4; have HO4 := Lib.hid ho4; have HB4 := Lib.hid (HBB.out.trans ((Below.refl _ _).alloc HBB.out.size _ |>.trans hb4)); clear ho4 hb4 hg4 hv4)
              go_roundw
              case rel => exact ⟨m + 1, by omega, by go_num, by rw [HS.out]; exact HO4.out, HB4.out⟩
              case measure => (first | (simp [intOf]; done) | (simp [intOf]; omega))
            · obtain rfl : m = b := by omega
              rw [List.take_of_length_le (by simp only [numL, List.length_map]; rw [← HN.out.2.2]; omega)] at how
              obtain ⟨AY, cy, rfl, hcy⟩ := how.form
              rw [show (numL ys).length = m by simp only [numL, List.length_map]; rw [← HN.out.2.2]] at how ⊢
              have HOY := Lib.hid how
              have HBY := Lib.hid hB2
              have HX := Lib.hid (HOX.out.below hB2)
              have HT7 := Lib.hid ((HT.out.below HBX.out).below hB2)
              obtain ⟨w7, hw7⟩ : ∃ x, x = wr := ⟨_, rfl⟩
              rw [← hw7] at HOY HBY HX HT7 ⊢
              clear how hB2 hlt hw7 hcy
              go_wp2_with fail
              have hM1 := numL_len xs
              have hM2 := numL_len ys
              rw [← HN.out.2.1] at hM1
              rw [← HN.out.2.2] at hM2
              have hg1 := HT.out.blk.lt
              have hg2 := HT.out.mp.lt
              have hnX : ∀ ad, AX = some ad → ¬ Own2 g mb ad.block := fun ad e => by
                have := (ow_ad HOX.out ad e).1
                rintro (h | h)
                · omega
                · have := hg2 _ h; omega
              have hnY : ∀ ad, AY = some ad → ¬ Own2 g mb ad.block := fun ad e => by
                have := (ow_ad HOY.out ad e).1
                have := HBX.out.size
                rintro (h | h)
                · omega
                · have := hg2 _ h; omega
              have HR1 := hren_c w7 g mb (nodL ns k) k HT7.out AX cx (numL xs) HX.out.rd2 hnX (by omega) (numL_max xs)
              rw [hM1] at HR1
              have HNX := Lib.hid hnX
              have HNY := Lib.hid hnY
              have HL := Lib.hid (And.intro hM1 hM2)
              have HC1 := Lib.hid HR1
              clear HR1 hnX hnY hM1 hM2 hg1 hg2
              refine Calls.mono HC1.out ?_
              rintro e w8 ⟨rfl, h8, k8⟩
              have HT8 := Lib.hid h8
              have HOY8 := Lib.hid (k8.ow HOY.out (fun i e => by
                rcases HOY.out.2 with ⟨e1, _⟩ | ⟨q, _, _, e1, _⟩
                · injection e1 with e1; subst e1; cases e
                · injection e1 with e1; subst e1; injection e with e; subst e; exact HNY.out _ rfl))
              have HX8 := Lib.hid (k8.ow HX.out (fun i e => by
                rcases HX.out.2 with ⟨e1, _⟩ | ⟨q, _, _, e1, _⟩
                · injection e1 with e1; subst e1; cases e
                · injection e1 with e1; subst e1; injection e with e; subst e; exact HNX.out _ rfl))
              have HK8 := Lib.hid k8
              have HR2 := hren_c w8 g mb _ k h8 AY cy (numL ys) HOY8.out.rd2 HNY.out (by have := HL.out.2; omega) (numL_max ys)
              rw [HL.out.2] at HR2
              have HC2 := Lib.hid HR2
              rw [nodL_len]
              obtain ⟨G1, hG1⟩ : ∃ G, G = k - (renL (numL xs) (nodL ns k)).length := ⟨_, rfl⟩
              rw [← hG1]
              have HG1 := Lib.hid hG1
              have hG1b : (G1 : Int) ≤ 60 := by omega
              clear HR2 h8 k8 HC1 hG1
              go_wp2_with fail
              refine Calls.mono HC2.out ?_
              rintro e w9 ⟨rfl, h9, k9⟩
              obtain ⟨G2, hG2⟩ : ∃ G, G = (renL (numL xs) (nodL ns k)).length - (renL (numL ys) (renL (numL xs) (nodL ns k))).length := ⟨_, rfl⟩
              rw [← hG2]
              have hG2b : (G2 : Int) ≤ 60 := by have := ren_len (numL xs) (nodL ns k); rw [nodL_len] at this; omega
              have HGG := Lib.hid (show G1 + G2 + cnt2 (numL xs) (numL ys) ns k = k from by
                have e1 := ren_len (numL xs) (nodL ns k)
                have e2 := ren_len (numL ys) (renL (numL xs) (nodL ns k))
                have e3 : cnt2 (numL xs) (numL ys) ns k = (renL (numL ys) (renL (numL xs) (nodL ns k))).length := by unfold cnt2; rw [F2_eq]
                have e4 := HG1.out
                rw [nodL_len] at e1
                rw [e3]; omega)
              rw [F2_eq] at h9
              have HT9 := Lib.hid h9
              have HX9 := Lib.hid (k9.ow HX8.out (fun i e => by
                rcases HX8.out.2 with ⟨e1, _⟩ | ⟨q, _, _, e1, _⟩
                · injection e1 with e1; subst e1; cases e
                · injection e1 with e1; subst e1; injection e with e; subst e; exact HNX.out _ rfl))
              have HY9 := Lib.hid (k9.ow HOY8.out (fun i e => by
                rcases HOY8.out.2 with ⟨e1, _⟩ | ⟨q, _, _, e1, _⟩
                · injection e1 with e1; subst e1; cases e
                · injection e1 with e1; subst e1; injection e with e; subst e; exact HNY.out _ rfl))
              have HB9 := Lib.hid (show Below w1.heap.size w1 w9 from (HB.out.trans ((HBX.out.trans (HBY.out.mono HBX.out.size)).mono HB.out.size)).trans ((HK8.out.trans k9).below (Nat.le_trans HB.out.size (Nat.le_trans HBX.out.size HBY.out.size)) HG.out))
              clear h9 k9 hG2 HC2
              go_wp2_with fail
              go_loopw [16, 17] (fun q i wr => ∃ r : Nat, r ≤ k ∧ i = .int .i64 r ∧ q = .int .i64 (cnt2 (numL xs) (numL ys) ns r) ∧ wr = w9) (fun _ i _ => k - (intOf i).toNat)
              case atStart => exact ⟨0, by omega, rfl, rfl, rfl⟩
              case round =>
                obtain ⟨r, hr, rfl, rfl, rfl⟩ := hrel
                by_cases hlt : r < k
                · have p1 : (0 : Int) ≤ (r : Int) := by omega
                  have p2 : (r : Int) < (k : Int) := by omega
                  have hsl : r < ns.length := by rw [← HN.out.1]; exact hlt
                  obtain ⟨ad, rfl, hadb, hcl0⟩ := (HR.out.1.below (HB1.out.trans (HB9.out.mono HB1.out.size))) r hsl
                  have hgd : ns.getD r 0#8 = ns[r] := by rw [List.getD_eq_getElem?_getD, List.getElem?_eq_getElem hsl]; rfl
                  obtain ⟨q, hq⟩ : ∃ q : Nat, q = (ns[r]).toNat := ⟨_, rfl⟩
                  have hq2 : q < 256 := by rw [hq]; exact (ns[r]).isLt
                  have hcl : wr.cell? (ad.add r) = some (.int .u8 (q : Int)) := by rw [hcl0, hq]; rfl
                  obtain ⟨v, hv⟩ : ∃ v : Nat, v = q % 20 := ⟨_, rfl⟩
                  have hm : m20 (ns.getD r 0#8) = v := by rw [hgd]; unfold m20; rw [← hq, hv]
                  have q4 : (0 : Int) ≤ (q : Int) := by omega
                  have q5 : (q : Int) ≤ 255 := by omega
                  have hqv : (q : Int) % 20 = (v : Int) := by omega
                  have q6 : (v : Int) ≤ 19 := by omega
                  have hjn : r < (nodL ns k).length := by rw [nodL_len]; exact hlt
                  have hrise : Rise (nodL ns k) := HT.out.rise
                  have hlf := look_fm (F := F2 (numL xs) (numL ys)) (fun p q h => F2_key h) hrise r hjn
                  rw [nodL_at, hm] at hlf
                  have hga := hget_c wr g mb _ k HT9.out (((r + 1 : Nat) : Int)) (wfI (by omega) (by omega))
                  rw [hlf, show (((r + 1 : Nat) : Int)) = (r : Int) + 1 from rfl] at hga
                  have hf1 := renF_at (numL xs) ((r : Int) + 1) v
                  rw [HL.out.1] at hf1
                  have hcn := fun h => cnt2_none (to := numL xs) (t2 := numL ys) (ns := ns) (i := r) (by rw [hm]; exact h)
                  have hcs := fun q h => cnt2_some (to := numL xs) (t2 := numL ys) (ns := ns) (i := r) (q := q) (by rw [hm]; exact h)
                  have hcb := cnt2_le (numL xs) (numL ys) ns r
                  obtain ⟨c, hc⟩ : ∃ c, c = cnt2 (numL xs) (numL ys) ns r := ⟨_, rfl⟩
                  rw [← hc] at hcn hcs hcb ⊢
                  have hcb2 : (c : Int) ≤ 60 := by omega
                  have HGA := Lib.hid hga
                  have HF1 := Lib.hid hf1
                  have HCN := Lib.hid hcn
                  have HCS := Lib.hid hcs
                  clear hga hf1 hcn hcs hcb hc hlf hjn hrise hm hgd hq hq2 hcl0 hadb hv hsl
                  have hxy := And.intro (fun j (h : j < (numL xs).length) => HX9.out.rd2 j h) (fun j (h : j < (numL ys).length) => HY9.out.rd2 j h)
                  have HXY := Lib.hid hxy
                  clear hxy
                  by_cases hA : k = k ∧ v < j
                  · have hA2 := hA.2
                    clear hA
                    have hvl : v < (numL xs).length := by rw [HL.out.1]; exact hA2
                    obtain ⟨adX, rfl, hadX, hclX⟩ := HXY.out.1 v hvl
                    obtain ⟨p, hp19, hp⟩ := numL_at xs v hvl
                    have hgp : (numL xs).getD v 0 = (p : Int) := by rw [List.getD_eq_getElem?_getD, List.getElem?_eq_getElem hvl, ← hp]; rfl
                    rw [hp] at hclX
                    unfold i64 at hclX
                    have hf1 := HF1.out
                    rw [if_neg (by omega), hgp] at hf1
                    have tA : decide (1 + (v : Int) ≤ (j : Int)) = true := by simp; omega
                    have tA1 : (v : Int) < (j : Int) := by omega
                    have tA2 : (0 : Int) ≤ (v : Int) := by omega
                    clear hp hgp hadX
                    cases p with
                    | zero =>
                      rw [if_pos (by decide)] at hf1
                      have hF : F2 (numL xs) (numL ys) ((r : Int) + 1, 1 + (v : Int)) = none := by unfold F2; rw [hf1]; rfl
                      have hclX : wr.cell? (adX.add v) = some (.int .i64 0) := hclX
                      have hga := HGA.out
                      rw [hF] at hga
                      have HG2 := Lib.hid hga
                      have HCC := Lib.hid (HCN.out hF)
                      clear hga hF
                      go_wp2_with fail
                      refine Calls.mono HG2.out ?_
                      rintro e w' ⟨rfl, rfl⟩
                      go_wp2_with fail
                      go_roundw
                      case rel => exact ⟨r + 1, by omega, by go_num, by rw [HCC.out], trivial⟩
                      case measure => (first | (simp [intOf]; done) | (simp [intOf]; omega))
                    | succ u =>
                      rw [if_neg (by omega)] at hf1
                      have hf2 := renF_at (numL ys) ((r : Int) + 1) u
                      rw [HL.out.2] at hf2
                      have hF2 : F2 (numL xs) (numL ys) ((r : Int) + 1, 1 + (v : Int)) = renF (numL ys) ((r : Int) + 1, 1 + (u : Int)) := by unfold F2; rw [hf1]; show renF _ _ = _; rw [show ((u + 1 : Nat) : Int) = 1 + (u : Int) by omega]
                      rw [hf2] at hF2
                      have hclX : wr.cell? (adX.add v) = some (.int .i64 (1 + (u : Int))) := by rw [hclX, show ((u + 1 : Nat) : Int) = 1 + (u : Int) by omega]
                      have q7 : (u : Int) ≤ 19 := by omega
                      have tU : decide ((0 : Int) < 1 + (u : Int)) = true := by simp; omega
                      have tU2 : (0 : Int) ≤ (u : Int) := by omega
                      clear hf1 hf2 hp19
                      by_cases hB : u < m
                      · have hul : u < (numL ys).length := by rw [HL.out.2]; exact hB
                        obtain ⟨adY, rfl, hadY, hclY⟩ := HXY.out.2 u hul
                        obtain ⟨s, hs19, hs⟩ := numL_at ys u hul
                        have hgs : (numL ys).getD u 0 = (s : Int) := by rw [List.getD_eq_getElem?_getD, List.getElem?_eq_getElem hul, ← hs]; rfl
                        rw [hs] at hclY
                        unfold i64 at hclY
                        rw [if_neg (by omega), hgs] at hF2
                        have tB : decide (1 + (u : Int) ≤ (m : Int)) = true := by simp; omega
                        have tB1 : (u : Int) < (m : Int) := by omega
                        clear hs hgs hadY
                        cases s with
                        | zero =>
                          rw [if_pos (by decide)] at hF2
                          have hF := hF2
                          have hclY : wr.cell? (adY.add u) = some (.int .i64 0) := hclY
                          clear hF2
                          have hga := HGA.out
                          rw [hF] at hga
                          have HG2 := Lib.hid hga
                          have HCC := Lib.hid (HCN.out hF)
                          clear hga hF
                          go_wp2_with fail
                          refine Calls.mono HG2.out ?_
                          rintro e w' ⟨rfl, rfl⟩
                          go_wp2_with fail
                          go_roundw
                          case rel => exact ⟨r + 1, by omega, by go_num, by rw [HCC.out], trivial⟩
                          case measure => (first | (simp [intOf]; done) | (simp [intOf]; omega))
                        | succ z =>
                          rw [if_neg (by omega)] at hF2
                          have hF := hF2
                          have hclY : wr.cell? (adY.add u) = some (.int .i64 ((z : Int) + 1)) := hclY
                          have tZ : decide ((0 : Int) < (z : Int) + 1) = true := by first | (simp; done) | (simp; omega)
                          have tZ2 : (z : Int) ≤ 19 := by omega
                          clear hF2
                          have hga := HGA.out
                          rw [hF] at hga
                          have HG2 := Lib.hid hga
                          have HCC := Lib.hid (HCS.out _ hF)
                          clear hga hF hs19
                          go_wp2_with fail
                          refine Calls.mono HG2.out ?_
                          rintro e w' ⟨rfl, rfl⟩
                          go_wp2_with fail
                          go_roundw
                          case rel => exact ⟨r + 1, by omega, by go_num, by rw [HCC.out]; go_num, trivial⟩
                          case measure => (first | (simp [intOf]; done) | (simp [intOf]; omega))
                      · rw [if_pos (by omega)] at hF2
                        have hF := hF2
                        have tB : decide (1 + (u : Int) ≤ (m : Int)) = false := by simp; omega
                        clear hF2
                        have hga := HGA.out
                        rw [hF] at hga
                        have HG2 := Lib.hid hga
                        have HCC := Lib.hid (HCN.out hF)
                        clear hga hF
                        go_wp2_with fail
                        refine Calls.mono HG2.out ?_
                        rintro e w' ⟨rfl, rfl⟩
                        go_wp2_with fail
                        go_roundw
                        case rel => exact ⟨r + 1, by omega, by go_num, by rw [HCC.out], trivial⟩
                        case measure => (first | (simp [intOf]; done) | (simp [intOf]; omega))
                  · have hA2 : ¬ v < j := fun h => hA ⟨rfl, h⟩
                    clear hA
                    have hf1 := HF1.out
                    rw [if_pos (by omega)] at hf1
                    have hF : F2 (numL xs) (numL ys) ((r : Int) + 1, 1 + (v : Int)) = none := by unfold F2; rw [hf1]; rfl
                    have tA : decide (1 + (v : Int) ≤ (j : Int)) = false := by simp; omega
                    clear hf1
                    have hga := HGA.out
                    rw [hF] at hga
                    have HG2 := Lib.hid hga
                    have HCC := Lib.hid (HCN.out hF)
                    clear hga hF
                    go_wp2_with fail
                    refine Calls.mono HG2.out ?_
                    rintro e w' ⟨rfl, rfl⟩
                    go_wp2_with fail
                    go_roundw
                    case rel => exact ⟨r + 1, by omega, by go_num, by rw [HCC.out], trivial⟩
                    case measure => (first | (simp [intOf]; done) | (simp [intOf]; omega))
                · obtain rfl : r = k := by omega
                  have hcb := cnt2_le (numL xs) (numL ys) ns r
                  have hlv := hlive_c wr g mb _ r HT9.out
                  have hgg := HGG.out
                  have hcl : (((nodL ns r).filterMap (F2 (numL xs) (numL ys))).map (·.1)).length = cnt2 (numL xs) (numL ys) ns r := by rw [List.length_map]; rfl
                  have HLV := Lib.hid (hlv.mono (show ∀ e w', NewRow wr (((nodL ns r).filterMap (F2 (numL xs) (numL ys))).map (·.1)) e w' → ∃ A c, e = .returned (.slice A (cnt2 (numL xs) (numL ys) ns r) c) ∧ Below wr.heap.size wr w' from fun e w' h => by
                    obtain ⟨v, rfl, ho, hb⟩ := h
                    obtain ⟨A, c, rfl, _⟩ := ho.form
                    rw [hcl]
                    exact ⟨A, c, rfl, hb⟩))
                  obtain ⟨c, hc⟩ : ∃ c, c = cnt2 (numL xs) (numL ys) ns r := ⟨_, rfl⟩
                  rw [← hc] at HLV hgg hcb ⊢
                  have tt : ((G1 : Int) + (G2 : Int) + (c : Int) == (r : Int)) = true := by simp; omega
                  have hcb2 : (c : Int) ≤ 60 := by omega
                  clear hc hcl hlv hgg hcb
                  go_wp2_with fail
                  refine Calls.mono HLV.out ?_
                  rintro e w10 ⟨A10, c10, rfl, b10⟩
                  have HB10 := Lib.hid (HB1.out.trans ((HB9.out.trans (b10.mono HB9.out.size)).mono HB1.out.size))
                  clear b10
                  go_wp2_with fail
                  go_ret
                  exact ⟨rfl, HB10.out⟩
theorem renums_walk (w : World) (A : Option Addr) (ns : List (BitVec 8)) (ca : Nat) (g1 : ns.length ≤ ca) (m1 : ca ≤ maxLen) (hr1 : Rd b8 w w.heap.size A ns) (B : Option Addr) (xs : List (BitVec 8)) (cb : Nat) (g2 : xs.length ≤ cb) (m2 : cb ≤ maxLen) (hr2 : Rd b8 w w.heap.size B xs)
    (C : Option Addr) (ys : List (BitVec 8)) (cc : Nat) (g3 : ys.length ≤ cc) (m3 : cc ≤ maxLen) (hr3 : Rd b8 w w.heap.size C ys) : Calls Try.prog 5 #[.slice A ns.length ca, .slice B xs.length cb, .slice C ys.length cc] w (TruP (.bool true) w) := by
  by_cases h : 60 < ns.length ∨ 60 < xs.length ∨ 60 < ys.length
  · exact renums_out w A B C _ _ _ ca cb cc h (Nat.le_trans g1 m1) (Nat.le_trans g2 m2) (Nat.le_trans g3 m3)
  · exact renums_in w A B C ns xs ys ca cb cc (by omega) (by omega) (by omega) hr1 hr2 hr3
end Go.Proofs.Ytflocdghpnjoaaa
namespace Go.Proofs.Ytflocdghpnjoaaa.handRenumbers
open Go.ChangeShapes Go.WideShapes Go.ChangeAt Go.RowKit
open Go.ChangeMaps (open_string shut_string)
set_option linter.unusedVariables false
set_option maxRecDepth 100000 in
theorem lifted (os : Os) (started : os.Started) (H : Type) (enc : TypeId × Value → H) :
    ReturnsInHanded {} Try.checked os 5 .any (Rows.handRenumbersSpec.pre6 enc Try.prog Try.f5 Rows.handRenumbersRow.domain false) (Rows.handRenumbersSpec.post enc Try.prog Try.f5 false true false false) := by
  refine returnsInHanded_of_change (C := Try.checked) own started (by kernel_rfl) Try.func5
    (ChangeSpec.witness6 (enc := enc) (C := Try.checked) false ⟨#[], #[.slice none 0 0, .slice none 0 0, .slice none 0 0], []⟩ 8 (by kernel_rfl) (by kernel_rfl) (by kernel_rfl) (by kernel_rfl)) ?_
  intro W base args ds gs before hval0 hW hcnd _
  have hval : ∀ (j : Nat) t v, Try.f5.params[j]? = some t → args[j]? = some v → Value.okWide Try.prog W .any base t v := hval0
  have hW' := hW
  obtain ⟨p, q, hA0, hV, rfl, hfz, hnd⟩ := hW
  have hA : DataW.TrodAll enc Try.prog W 0 (fun _ => true) true Try.f5.params.toList args.toList ds p := hA0
  rw [Try.params5] at hA hval
  obtain ⟨v0, vs0, d0, ds0, p0, q0, hargs, rfl, rfl, h0, r0⟩ := trodAll_cons hA
  obtain ⟨v1, vs1, d1, ds1, p1, q1, rfl, rfl, rfl, h1, r1⟩ := trodAll_cons r0
  obtain ⟨v2, vs2, d2, ds2, p2, q2, rfl, rfl, rfl, h2, r2⟩ := trodAll_cons r1
  obtain ⟨rfl, rfl, rfl⟩ := trodAll_nil r2
  obtain rfl : args = #[v0, v1, v2] := by cases args; simp_all
  obtain ⟨rfl, rfl⟩ := trodVars_none hV
  have k0 := h0
  have lt0 : ∀ x ∈ p0, x.block < W.heap.size := by obtain ⟨m, hm⟩ := k0; exact DataW.trod_lt m _ _ _ hm
  obtain ⟨A0, a0, c0, e0v, g0, m0, w0⟩ := open_bytes Try.underlying44 Try.underlying5 (by kernel_rfl) (hval 0 44 v0 rfl rfl) h0; subst e0v
  have k1 := h1
  have lt1 : ∀ x ∈ p1, x.block < W.heap.size := by obtain ⟨m, hm⟩ := k1; exact DataW.trod_lt m _ _ _ hm
  obtain ⟨A1, a1, c1, e1v, g1, m1, w1⟩ := open_bytes Try.underlying44 Try.underlying5 (by kernel_rfl) (hval 1 44 v1 rfl rfl) h1; subst e1v
  have k2 := h2
  have lt2 : ∀ x ∈ p2, x.block < W.heap.size := by obtain ⟨m, hm⟩ := k2; exact DataW.trod_lt m _ _ _ hm
  obtain ⟨A2, a2, c2, e2v, g2, m2, w2⟩ := open_bytes Try.underlying44 Try.underlying5 (by kernel_rfl) (hval 2 44 v2 rfl rfl) h2; subst e2v
  clear hA0 hval0
  refine (renums_walk W A0 a0 c0 g0 m0 w0 A1 a1 c1 g1 m1 w1 A2 a2 c2 g2 m2 w2).mono fun e W' ⟨he, bel⟩ => ?_
  subst he
  exact ⟨_, rfl, _, _, _, [], _, [], hW', trodAll_mk1 (shut_bool Try.underlying4 _), (trodAll_cons_mk (Below.trod laidOut (by kernel_rfl) (of_decide_eq_true (by kernel_rfl)) k0 bel lt0) (trodAll_cons_mk (Below.trod laidOut (by kernel_rfl) (of_decide_eq_true (by kernel_rfl)) k1 bel lt1) (trodAll_cons_mk (Below.trod laidOut (by kernel_rfl) (of_decide_eq_true (by kernel_rfl)) k2 bel lt2) trodAll_mk0))), rfl, bel.frame _, fun h => by cases h⟩
theorem over : Rows.handRenumbersRow.holds Try.pinned (OpenSpec.ofChange Rows.handRenumbersSpec) :=
  OpenClaim.holds_of_wide 5 Try.f5 rfl rfl rfl rfl rfl rfl rfl ⟨rfl, rfl, rfl, rfl, rfl⟩ rfl rfl rfl rfl rfl (by kernel_rfl) Try.func5 (by kernel_rfl)
    (of_decide_eq_true (by kernel_rfl)) (by unfold Func.isWrapper; first | (rw [if_pos (by decide +kernel)]; kernel_rfl) | (rw [if_neg (by decide +kernel)]; exact ⟨rfl, rfl⟩))
    (fun os started H enc _ => lifted os started H enc)
theorem proved : Rows.HandRenumbersSaid := over
end Go.Proofs.Ytflocdghpnjoaaa.handRenumbers
