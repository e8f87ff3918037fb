/- Texts joined: GtA GrD AppS GrO RegU GtZ GuAz GuBz. -/
import Derived.Test.YtaminpfgkegibaaXc6
import Derived.Test.YtaminpfgkegibaaMem
import Derived.Test.YtaminpfgkegibaaRegT
import Derived.Test.YtaminpfgkegibaaMmA
import Derived.Test.YtaminpfgkegibaaHeadB
import Derived.Lib.IndexLaws
/- The law's Few. Conditions: what a graph that came in has. -/
namespace Go.Proofs.Ytaminpfgkegibaa
set_option linter.unusedVariables false
set_option linter.unusedSimpArgs false
open Go.RowKit
def FewP (g : Gv) : Prop := g.n.length ≤ 60 ∧ g.r.length ≤ 80 ∧ (∀ x ∈ g.n, x.ps.length ≤ 70 ∧ x.bs.length ≤ 1100) ∧ ∀ r ∈ g.r, r.s.size ≤ 40
theorem FewP.small {g : Gv} (h : FewP g) : g.Small := ⟨by have := h.1; omega, by have := h.2.1; omega, fun x hx => by have := h.2.2.1 x hx; omega⟩
def FewQ (g : Gv) (w : World) (e : Ending) (w' : World) : Prop := ∃ b, e = .returned (.bool b) ∧ (b = true → FewP g) ∧ Below w.heap.size w w'
set_option maxHeartbeats 1000000
set_option maxRecDepth 100000
theorem few_c (w : World) (g : Gv) (hg : g.At w w.heap.size) : Calls Try.prog 17 #[g.v] w (FewQ g w) := by
  have HG := Lib.hid hg
  obtain ⟨A, ca, A2, ca2, ns, rs⟩ := g
  obtain ⟨N, hN⟩ : ∃ N, N = ns.length := ⟨_, rfl⟩
  obtain ⟨M, hM⟩ : ∃ M, M = rs.length := ⟨_, rfl⟩
  have HN := Lib.hid hN
  have HM := Lib.hid hM
  unfold Gv.v Gv.vn Gv.vr
  simp only
  rw [← hN, ← hM]
  clear hg hN hM
  go_enter Try.func17, Try.ntmps17
  by_cases hN60 : 60 < N
  · have t1 : (60 : Int) < (N : Int) := by omega
    go_wp2_with fail
    go_ret
    exact ⟨_, rfl, (fun h => nomatch h), (by repeat (first | with_reducible assumption | with_reducible exact Below.refl _ _ | with_reducible apply bdN | with_reducible apply Below.drew | with_reducible refine Below.alloc ?_ (by simp) _ | with_reducible refine Below.setCell ?_ (by simp) _))⟩
  have t1 : ¬ (60 : Int) < (N : Int) := by omega
  by_cases hM80 : 80 < M
  · have t2 : (80 : Int) < (M : Int) := by omega
    go_wp2_with fail
    go_ret
    exact ⟨_, rfl, (fun h => nomatch h), (by repeat (first | with_reducible assumption | with_reducible exact Below.refl _ _ | with_reducible apply bdN | with_reducible apply Below.drew | with_reducible refine Below.alloc ?_ (by simp) _ | with_reducible refine Below.setCell ?_ (by simp) _))⟩
  have t2 : ¬ (80 : Int) < (M : Int) := by omega
  go_wp2_with fail
  have q0 : (N : Int) ≤ 60 := by omega
  have q1 : (M : Int) ≤ 80 := by omega
  clear t1 t2 hN60 hM80
  go_loopw [3] (fun i W => ∃ k : Nat, i = .int .i64 k ∧ k ≤ N ∧ Hid (∀ x ∈ ns.take k, x.ps.length ≤ 70 ∧ x.bs.length ≤ 1100) ∧ Bk W w.heap.size 29 #[.slice A N ca, .slice A2 M ca2] ∧ Below w.heap.size w W) (fun i _ => N - (Go.RowKit.intOf i).toNat)
  case atStart => exact ⟨0, rfl, Nat.zero_le _, Lib.hid (fun x hx => by cases hx), Bk.new _ _ _, (by repeat (first | with_reducible assumption | with_reducible exact Below.refl _ _ | with_reducible apply bdN | with_reducible apply Below.drew | with_reducible refine Below.alloc ?_ (by simp) _ | with_reducible refine Below.setCell ?_ (by simp) _))⟩
  case round =>
    obtain ⟨k, rfl, hk, hck, hb1, hB⟩ := hrel
    have c0 := hb1.two.1
    have hsz := hb1.lt
    have c1 := hb1.two.2
    by_cases hlt : k < N
    · have hkl : k < ns.length := by rw [← HN.out]; exact hlt
      obtain ⟨x, hx⟩ : ∃ x, x = ns[k] := ⟨_, rfl⟩
      obtain ⟨ad, rfl, hc2, hc3, hxa⟩ : ∃ ad, A = some ad ∧ wr.cell? (ad.add (k * 2)) = some x.vp ∧ wr.cell? ⟨(ad.add (k * 2)).block, (ad.add (k * 2)).off + 1, none⟩ = some x.vd ∧ x.At wr wr.heap.size := by
        obtain ⟨ad, e, _, h1, h2, h3⟩ := (HG.out.n.below hB) k hkl
        exact ⟨ad, e, by rw [hx]; exact h1, by rw [hx]; exact h2, by rw [hx]; exact h3.more hB.size⟩
      have HS := Lib.hid (show x.ps.length ≤ 70 → x.bs.length ≤ 1100 → ∀ y ∈ ns.take (k + 1), y.ps.length ≤ 70 ∧ y.bs.length ≤ 1100 from fun h1 h2 y hy => by
        rw [List.take_succ_eq_append_getElem hkl, ← hx] at hy
        rcases List.mem_append.1 hy with hy | hy
        · exact hck.out y hy
        · rw [List.mem_singleton.1 hy]; exact ⟨h1, h2⟩)
      have p1 : (0 : Int) ≤ (k : Int) := by omega
      have p2 : (k : Int) < (N : Int) := by omega
      have HBB := Lib.hid (And.intro hb1 hB)
      clear hx hb1 hB hkl hxa hck
      obtain ⟨xA, xc, xD, xd, xps, xbs⟩ := x
      obtain ⟨xn, hxn⟩ : ∃ n, n = xps.length := ⟨_, rfl⟩
      obtain ⟨xm, hxm⟩ : ∃ n, n = xbs.length := ⟨_, rfl⟩
      unfold Nv.vp at hc2
      unfold Nv.vd at hc3
      simp only at hc2 hc3 HS
      rw [← hxn] at hc2 HS
      rw [← hxm] at hc3 HS
      clear hxn hxm
      by_cases g1 : 70 < xn
      · have t1 : (70 : Int) < (xn : Int) := by omega
        go_wp2_with fail
        go_ret
        exact ⟨_, rfl, (fun h => nomatch h), HBB.out.2⟩
      have t1 : ¬ (70 : Int) < (xn : Int) := by omega
      by_cases g2 : 1100 < xm
      · have t2 : (1100 : Int) < (xm : Int) := by omega
        go_wp2_with fail
        go_ret
        exact ⟨_, rfl, (fun h => nomatch h), HBB.out.2⟩
      have t2 : ¬ (1100 : Int) < (xm : Int) := by omega
      have HX := Lib.hid (HS.out (by omega) (by omega))
      clear HS g1 g2
      go_wp2_with fail
      go_roundw
      case rel => exact ⟨k + 1, by go_num, by omega, HX, HBB.out⟩
      case measure => (first | (simp [Go.RowKit.intOf]; done) | (simp [Go.RowKit.intOf]; omega))
    · have hkN : k = N := by omega
      have HF := Lib.hid (show ∀ x ∈ ns, x.ps.length ≤ 70 ∧ x.bs.length ≤ 1100 from by
        have := hck.out
        rwa [List.take_of_length_le (by rw [← HN.out]; omega)] at this)
      have HB1 := Lib.hid (And.intro hb1 hB)
      clear hkN hck hb1 hB
      go_wp2_with fail
      go_loopw [4] (fun i W => ∃ k : Nat, i = .int .i64 k ∧ k ≤ M ∧ Hid (∀ x ∈ rs.take k, x.s.size ≤ 40) ∧ Bk W w.heap.size 29 #[.slice A N ca, .slice A2 M ca2] ∧ Below w.heap.size w W) (fun i _ => M - (Go.RowKit.intOf i).toNat)
      case atStart => exact ⟨0, rfl, Nat.zero_le _, Lib.hid (fun x hx => by cases hx), HB1.out⟩
      case round =>
        obtain ⟨k, rfl, hk, hck, hb1, hB⟩ := hrel
        have c0 := hb1.two.1
        have hsz := hb1.lt
        have c1 := hb1.two.2
        have HB3 := Lib.hid (And.intro hb1 hB)
        by_cases hlt : k < M
        · have hkl : k < rs.length := by rw [← HM.out]; exact hlt
          obtain ⟨x, hx⟩ : ∃ x, x = rs[k] := ⟨_, rfl⟩
          obtain ⟨ad, rfl, hc2, hc3⟩ : ∃ ad, A2 = some ad ∧ wr.cell? (ad.add (k * 2)) = some (.string x.s) ∧ wr.cell? ⟨(ad.add (k * 2)).block, (ad.add (k * 2)).off + 1, none⟩ = some (.int .i64 x.t) := by
            obtain ⟨ad, e, _, h1, h2⟩ := (HG.out.r.below hB) k hkl
            exact ⟨ad, e, by rw [hx]; exact h1, by rw [hx]; exact h2⟩
          have HS := Lib.hid (show x.s.size ≤ 40 → ∀ y ∈ rs.take (k + 1), y.s.size ≤ 40 from fun h1 y hy => by
            rw [List.take_succ_eq_append_getElem hkl, ← hx] at hy
            rcases List.mem_append.1 hy with hy | hy
            · exact hck.out y hy
            · rw [List.mem_singleton.1 hy]; exact h1)
          have p1 : (0 : Int) ≤ (k : Int) := by omega
          have p2 : (k : Int) < (M : Int) := by omega
          clear hx hb1 hB hkl hck
          by_cases g1 : 40 < x.s.size
          · have t1 : (40 : Int) < (x.s.size : Int) := by omega
            go_wp2_with fail
            go_ret
            exact ⟨_, rfl, (fun h => nomatch h), HB3.out.2⟩
          have t1 : ¬ (40 : Int) < (x.s.size : Int) := by omega
          have HX := Lib.hid (HS.out (by omega))
          clear HS g1
          go_wp2_with fail
          go_roundw
          case rel => exact ⟨k + 1, by go_num, by omega, HX, HB3.out⟩
          case measure => (first | (simp [Go.RowKit.intOf]; done) | (simp [Go.RowKit.intOf]; omega))
        · have hkM : k = M := by omega
          have HE := Lib.hid (show FewP ⟨A, ca, A2, ca2, ns, rs⟩ from by
            refine ⟨by show ns.length ≤ 60; have := HN.out; omega, by show rs.length ≤ 80; have := HM.out; omega, HF.out, ?_⟩
            have := hck.out
            rwa [List.take_of_length_le (by rw [← HM.out]; omega)] at this)
          have HB4 := Lib.hid hB
          clear hkM hck hb1 hB HB3
          go_wp2_with fail
          go_ret
          exact ⟨_, rfl, fun _ => HE.out, HB4.out⟩
end Go.Proofs.Ytaminpfgkegibaa
/- graph.Words, graph.Named. Conditions: lengths. -/
namespace Go.Proofs.Ytaminpfgkegibaa
set_option linter.unusedVariables false
set_option linter.unusedSimpArgs false
open Go.RowKit
def szN (x : Nv) : Int := sizeH x.ps.length x.bs.length false 0
def wordsL : List Nv → Int
  | [] => 0
  | x :: r => szN x + wordsL r
theorem szN_le (x : Nv) : 0 ≤ szN x ∧ szN x ≤ 300 := by
  unfold szN sizeH
  by_cases h : rightH x.ps.length x.bs.length false 0 = true ∧ (false = false)
  · rw [if_pos h]
    rcases rightH_out h.1 with ⟨h1, _⟩ | ⟨_, h2, h3, h4, h5, h6⟩
    · cases h1
    · omega
  · rw [if_neg h]; omega
theorem wordsL_app (a b : List Nv) : wordsL (a ++ b) = wordsL a + wordsL b := by
  induction a with
  | nil => simp [wordsL]
  | cons x r ih => simp only [List.cons_append, wordsL, ih]; omega
theorem wordsL_le (l : List Nv) : 0 ≤ wordsL l ∧ wordsL l ≤ 300 * (l.length : Int) := by
  induction l with
  | nil => simp [wordsL]
  | cons x r ih =>
    have := szN_le x
    simp only [wordsL, List.length_cons]
    omega
theorem take_snoc {α : Type} (l : List α) (k : Nat) (h : k < l.length) : l.take (k + 1) = l.take k ++ [l[k]] := List.take_succ_eq_append_getElem h
set_option maxHeartbeats 1000000
set_option maxRecDepth 100000
end Go.Proofs.Ytaminpfgkegibaa
/- append of elements of many cells to a row of one's own. Conditions: lengths. -/
namespace Go.Proofs.Ytaminpfgkegibaa
set_option linter.unusedVariables false
set_option linter.unusedSimpArgs false
open Go.RowKit
set_option maxRecDepth 100000
set_option maxHeartbeats 400000
/-- append of elements of many cells to a row of one's own. -/
theorem wp_appR {P : Program} {t e : TypeId} {z : Value} {bytes : Nat} {w : World} {ops : Array Oper} {rest : List Oper} {o : Oper} {a : Act} {Q : Exit → Act → World → Prop} (size : Nat) (i : TypeInfo) (ht : P.underlying t = some (.slice e)) (hi : P.info? e = some i) (hz : i.zero = some z)
    (hsize : i.size = size) (hby : i.bytes = bytes) (hzs : z.cells.size = size) (hsz : 0 < size) (hgd : o.guard = none) (s x : Operand)
    (ho : o.op = .call { callee := .builtin .append, args := #[s, x], argTypes := #[t, t] })
    (base : Nat) (v : Value) (n : Nat) (xs : List Value) (hs : a.eval s = v) (hown : w.ownsRow base e size v n xs)
    (ad : Addr) (m c : Nat) (news : List Value) (hx : a.eval x = .slice (some ad) m c) (hl : news.length = m * size) (hnews : ∀ j u, news[j]? = some u → w.cell? (ad.add j) = some u) (h1 : ∀ u ∈ news, u.oneCell' = true)
    (h63 : n + m ≤ maxLen) (hbytes : (n + m) * bytes ≤ 140737488355328) (hbase : base ≤ w.heap.size)
    (h : ∀ v' w', w'.ownsRow base e size v' (n + m) (xs ++ news) → Below base w w' → w.grownBy w' v.ownBlock → (v'.ownBlock = v.ownBlock ∨ v'.ownBlock = some w.heap.size) → wpList P ops Q rest (a.put o.dst v') w') : wpList P ops Q (o :: rest) a w := by
  refine wpList_plain hgd fun K hK => ?_
  obtain ⟨v', w', hrun, h2, h3, _, h5⟩ := run_append_own_at (P := P) w base t o.type e i z size bytes ht hi hz hsize hby hzs hsz v n xs hown ad m c news hl hnews h1 h63 hbytes hbase
  unfold Oper.wp execOp
  simp only [ho, resolve, invoke, builtin, Sem.run_bind, Sem.run_pure, Result.andThen_ok, List.map_toArray, List.map_cons, List.map_nil, hs, hx, hrun]
  exact hK _ _ (h v' w' h2 ((Below.refl _ _).grown h3 hbase (fun k hk => (World.ownsRow.lt hown k hk).1)) h3 h5)
end Go.Proofs.Ytaminpfgkegibaa
/- Rows of nodes and of roots of one's own. Conditions: lengths. -/
namespace Go.Proofs.Ytaminpfgkegibaa
set_option linter.unusedVariables false
set_option linter.unusedSimpArgs false
open Go.RowKit
theorem addr_at (q k : Nat) : ((⟨q, 0, none⟩ : Addr).add k) = ⟨q, k, none⟩ := by unfold Addr.add; split <;> simp_all
theorem flat2 {α : Type} (f : α → List Value) (h2 : ∀ x, (f x).length = 2) : ∀ (l : List α) (i j : Nat) (hi : i < l.length), j < 2 → (l.flatMap f)[i * 2 + j]? = (f l[i])[j]?
  | [], i, j, hi, _ => absurd hi (by simp)
  | x :: l, 0, j, hi, hj => by
    rw [List.flatMap_cons, Nat.zero_mul, Nat.zero_add, List.getElem?_append_left (by rw [h2]; exact hj)]
    rfl
  | x :: l, i + 1, j, hi, hj => by
    rw [List.flatMap_cons, List.getElem?_append_right (by rw [h2]; omega), h2, show (i + 1) * 2 + j - 2 = i * 2 + j from by omega]
    exact flat2 f h2 l i j (by simpa using hi) hj
def Nv.cs (x : Nv) : List Value := [x.vp, x.vd]
def Rv.cs (x : Rv) : List Value := [.string x.s, .int .i64 x.t]
theorem own_cell2 {α : Type} {f : α → List Value} (h2 : ∀ x, (f x).length = 2) {W : World} {E : TypeId} {base n c : Nat} {A : Option Addr} {xs : List α} (h : W.ownsRow base E 2 (.slice A n c) xs.length (xs.flatMap f)) (i : Nat) (hi : i < xs.length) : ∃ q, A = some ⟨q, 0, none⟩ ∧ base ≤ q ∧ q < W.heap.size ∧ ∀ j, j < 2 → W.cell? ⟨q, i * 2 + j, none⟩ = (f xs[i])[j]? := by
  rcases h.2 with ⟨e, hn⟩ | ⟨g, cap, cur, e, hb, hh, _, _, hs, ht⟩
  · omega
  · injection e with e1 e2 e3
    refine ⟨g, e1, hb, (Array.getElem?_eq_some_iff.1 hh).1, fun j hj => ?_⟩
    rw [cell_of_row W g _ cur _ _ hh]
    have h4 := flat2 f h2 xs i j hi hj
    rw [← ht, List.getElem?_take_of_lt (by omega)] at h4
    rw [← Array.getElem?_toList, h4]
theorem own_len {W : World} {E : TypeId} {base n m c : Nat} {A : Option Addr} {cs : List Value} (h : W.ownsRow base E 2 (.slice A n c) m cs) : n = m ∧ m ≤ c := by
  rcases h.2 with ⟨e, hn⟩ | ⟨g, cap, cur, e, hb, hh, h1, h2, hs, ht⟩
  · injection e with e1 e2 e3
    omega
  · injection e with e1 e2 e3
    omega
theorem own_form {W : World} {E : TypeId} {base m : Nat} {v : Value} {cs : List Value} (h : W.ownsRow base E 2 v m cs) : ∃ A c, v = .slice A m c := by
  rcases h.2 with ⟨e, hn⟩ | ⟨g, cap, cur, e, _⟩
  · exact ⟨none, 0, by rw [e, hn]⟩
  · exact ⟨_, cap, e⟩
/-- The blocks of nodes' own rows. -/
def blksN (xs : List Nv) : List Nat := xs.flatMap fun x => x.vp.ownBlock.toList ++ x.vd.ownBlock.toList
/-- A row of nodes of one's own, all of it apart. -/
structure NOwn (W : World) (base : Nat) (v : Value) (xs : List Nv) : Prop where
  row : W.ownsRow base 97 2 v xs.length (xs.flatMap Nv.cs)
  each : ∀ x ∈ xs, Ow iV 3 W base x.vp x.ps ∧ Ow b8 5 W base x.vd x.bs
  dist : (v.ownBlock.toList ++ blksN xs).Nodup
def ROwn (W : World) (base : Nat) (v : Value) (xs : List Rv) : Prop := W.ownsRow base 99 2 v xs.length (xs.flatMap Rv.cs)
section
variable {W W' : World} {base : Nat} {v v' : Value}
theorem NOwn.nil (W : World) (base : Nat) : NOwn W base (.slice none 0 0) [] := ⟨⟨by simp, .inl ⟨rfl, rfl⟩⟩, fun x h => (by cases h), (by simp [blksN, Value.ownBlock])⟩
theorem ROwn.nil (W : World) (base : Nat) : ROwn W base (.slice none 0 0) [] := ⟨by simp, .inl ⟨rfl, rfl⟩⟩
theorem ownsRow_below {E : TypeId} {k n : Nat} {cs : List Value} (h : W.ownsRow base E k v n cs) (hb : Below W.heap.size W W') : W'.ownsRow base E k v n cs :=
  World.ownsRow.kept h (row := none) ⟨hb.os, hb.tape, hb.output, hb.size, fun k hk _ => hb.block k hk⟩ (by cases v.ownBlock <;> simp)
theorem NOwn.below {xs : List Nv} (h : NOwn W base v xs) (hb : Below W.heap.size W W') : NOwn W' base v xs := ⟨ownsRow_below h.row hb, fun x hx => ⟨(h.each x hx).1.below hb, (h.each x hx).2.below hb⟩, h.dist⟩
theorem ROwn.below {xs : List Rv} (h : ROwn W base v xs) (hb : Below W.heap.size W W') : ROwn W' base v xs := ownsRow_below h hb
theorem NOwn.at_ {xs : List Nv} (h : NOwn W base v xs) {x : Nv} (hx : x ∈ xs) : x.At W W.heap.size := by
  obtain ⟨h1, h2⟩ := h.each x hx
  obtain ⟨_, _, e1, hc1⟩ := h1.form
  obtain ⟨_, _, e2, hc2⟩ := h2.form
  unfold Nv.vp at e1 h1
  unfold Nv.vd at e2 h2
  injection e1 with _ _ e1
  injection e2 with _ _ e2
  exact ⟨h1.rd, h2.rd, by omega, by omega⟩
theorem NOwn.rows {A : Option Addr} {n c : Nat} {xs : List Nv} (h : NOwn W base (.slice A n c) xs) : NRow W W.heap.size A xs ∧ n = xs.length ∧ xs.length ≤ c := by
  have hl := own_len h.row
  refine ⟨fun i hi => ?_, hl.1, hl.2⟩
  obtain ⟨q, e, hb, hq, hc⟩ := own_cell2 (f := Nv.cs) (fun _ => rfl) h.row i hi
  have e0 := addr_at q (i * 2)
  refine ⟨_, e, hq, ?_, ?_, h.at_ (List.getElem_mem _)⟩
  · rw [e0]; exact hc 0 (by decide)
  · rw [e0]; exact hc 1 (by decide)
theorem ROwn.rows {A : Option Addr} {n c : Nat} {xs : List Rv} (h : ROwn W base (.slice A n c) xs) : RoRow W W.heap.size A xs ∧ n = xs.length ∧ xs.length ≤ c := by
  have hl := own_len h
  refine ⟨fun i hi => ?_, hl.1, hl.2⟩
  obtain ⟨q, e, hb, hq, hc⟩ := own_cell2 (f := Rv.cs) (fun _ => rfl) h i hi
  have e0 := addr_at q (i * 2)
  refine ⟨_, e, hq, ?_, ?_⟩
  · rw [e0]; exact hc 0 (by decide)
  · rw [e0]; exact hc 1 (by decide)
/-- Another block is changed. -/
theorem NOwn.grown {xs : List Nv} {q : Nat} (h : NOwn W base v xs) (hg : W.grownBy W' (some q)) (hq : q ∉ v.ownBlock.toList ++ blksN xs) : NOwn W' base v xs := by
  have key : ∀ u : Value, (∀ k, u.ownBlock = some k → k ∈ v.ownBlock.toList ++ blksN xs) → u.ownBlock = none ∨ u.ownBlock ≠ some q := fun u hu => by
    cases e : u.ownBlock with
    | none => exact .inl rfl
    | some k => exact .inr (fun e2 => hq (by injection e2 with e2; exact e2 ▸ hu k e))
  refine ⟨World.ownsRow.kept h.row hg (key _ fun k hk => by simp [hk]), fun y hy => ?_, h.dist⟩
  obtain ⟨g1, g2⟩ := h.each y hy
  exact ⟨g1.kept hg (key _ fun k hk => List.mem_append.2 (.inr (List.mem_flatMap.2 ⟨y, hy, by simp [hk]⟩))), g2.kept hg (key _ fun k hk => List.mem_append.2 (.inr (List.mem_flatMap.2 ⟨y, hy, by simp [hk]⟩)))⟩
theorem NOwn.mono {b2 : Nat} {xs : List Nv} (h : NOwn W base v xs) (hb : b2 ≤ base) : NOwn W b2 v xs := by
  refine ⟨?_, fun x hx => ⟨(h.each x hx).1.mono hb, (h.each x hx).2.mono hb⟩, h.dist⟩
  obtain ⟨h1, h2⟩ := h.row
  refine ⟨h1, ?_⟩
  rcases h2 with h2 | ⟨g, cap, cur, e, hg, r⟩
  · exact .inl h2
  · exact .inr ⟨g, cap, cur, e, Nat.le_trans hb hg, r⟩
theorem ROwn.mono {b2 : Nat} {xs : List Rv} (h : ROwn W base v xs) (hb : b2 ≤ base) : ROwn W b2 v xs := by
  obtain ⟨h1, h2⟩ := h
  refine ⟨h1, ?_⟩
  rcases h2 with h2 | ⟨g, cap, cur, e, hg, r⟩
  · exact .inl h2
  · exact .inr ⟨g, cap, cur, e, Nat.le_trans hb hg, r⟩
end
end Go.Proofs.Ytaminpfgkegibaa
/- As RegS, but the last of the row waits for all others, and behind it nothing is asked of the world. No conditions. -/
namespace Go.Proofs.Ytaminpfgkegibaa
set_option linter.unusedVariables false
set_option linter.unusedSimpArgs false
open Go.RowKit
section
variable {P : Program} {ops : Array Oper} {Q : Exit → Act → World → Prop} {a0 : Act} {w0 : World}
/-- Operations one behind the other; W holds of each world between, but for the last. -/
def SpineU (P : Program) (ops : Array Oper) (Q : Exit → Act → World → Prop) (W : World → Prop) : List Nat → Act → World → Prop
  | [], a, w => Q .normal a w
  | i :: is, a, w => ∃ o, ops[i]? = some o ∧ o.guard = none ∧ Oper.wp P o a w (fun a' w' => a'.defers = a.defers ∧ (is ≠ [] → W w') ∧ SpineU P ops Q W is a' w') NoQ
/-- One of the row, as straight code. -/
theorem spineU_list {i : Nat} {is : List Nat} {W : World → Prop} {d : Option Tmp} {op : Op} {type : TypeId} {a : Act} {w : World} (ho : (ops[i]?).map (fun o => (o.op, o.type)) = some (op, type)) (hdo : (ops[i]?).map (·.dst) = some d) (hg : (ops[i]?).bind (·.guard) = none)
    (h : wpList P #[{ dst := d, op, type, pos := "", after := #[], guard := none }] (SpineQ a.defers (fun w => is ≠ [] → W w) (SpineU P ops Q W is)) [{ dst := d, op, type, pos := "", after := #[], guard := none }] a w) : SpineU P ops Q W (i :: is) a w := by
  cases hi : ops[i]? with
  | none => rw [hi] at ho; cases ho
  | some o =>
    rw [hi] at ho hdo hg
    obtain ⟨dst, op', type', pos, after, guard⟩ := o
    simp only [Option.map_some, Option.some.injEq, Prod.mk.injEq] at ho hdo
    obtain ⟨rfl, rfl⟩ := ho
    subst hdo
    simp only [Option.bind_some] at hg
    subst hg
    refine ⟨_, hi, rfl, ?_⟩
    unfold wpList at h
    simp only [Region.wanted, if_true] at h
    have he : execOp a.eval { dst, op := op', type := type', pos, after, guard := none } = execOp a.eval { dst, op := op', type := type', pos := "", after := #[], guard := none } := by
      cases op' <;> rfl
    rcases h with h | ⟨_, h2⟩
    · unfold Oper.wp at h ⊢
      rw [he]
      generalize (execOp a.eval { dst, op := op', type := type', pos := "", after := #[], guard := none }).run P w = r at *
      cases r with
      | ok n w' =>
        cases n <;> simp only [Oper.upon, wpList] at h ⊢
        case value u => exact h
        case skip => exact h
        case defer u => exact h
        case enter f args =>
          refine Calls.mono h fun e w'' he => ?_
          cases e with
          | returned u => exact he
          | panicked c => exact he.elim
          | outgrown => obtain ⟨_, _, hf⟩ := he; exact hf.elim
        case row row args => exact h
      | halt x w' =>
        cases x <;> simp only [Oper.upon] at h ⊢
        case panic u => exact h.elim
    · obtain ⟨_, _, h3⟩ := h2
      exact h3.elim
def plainB (ops : Array Oper) (i : Nat) : Bool := match ops[i]? with
  | none => true
  | some o => match o.op with | .defer _ => false | .select .. => false | _ => true
/-- The checks of regB, of all but the last, which leaves nothing in a slot. -/
def regUB (ops : Array Oper) (m size : Nat) : Bool :=
  ops.size == m + 1 && ((List.range (m + 1)).all fun i => eldB ops i) && ((List.range m).all fun i => ownB ops m size i) && (dstOf ops m).isNone && (List.range (m + 1)).all fun i => plainB ops i
theorem region_spineU {id m : Nat} (sp fl : List Nat) (c : Nat → Value) (W : World → Prop) (hm : P.follows .mixedOrders = true) (hreg : regUB ops m a0.tmps.size = true) (hmsp : m ∈ sp) (hsp : spineB ops sp fl = true) (hne : sp ≠ []) (hlw : ∀ l ∈ sp.getLast?, ∀ i ∈ fl, waitsB ops l i = true) (hW : W w0.drew)
    (hF : ∀ i ∈ fl, ∀ w, W w → ∃ o, ops[i]? = some o ∧ (execOp (putL ops c fl a0).eval o).run P w = .ok (.value (c i)) w)
    (fin : SpineU P ops Q W sp (putL ops c fl a0) w0.drew) : (Code.region id ops true).wp P Q a0 w0 := by
  unfold spineB at hsp
  simp only [Bool.and_eq_true, List.all_eq_true, List.mem_range, decide_eq_true_eq, Bool.or_eq_true, List.contains_iff_mem, Bool.not_eq_true', Bool.not_eq_eq_eq_not, Bool.not_true] at hsp
  obtain ⟨⟨⟨⟨⟨⟨hch, hcov⟩, hfl⟩, hspl⟩, hnd⟩, hfo⟩, hso⟩ := hsp
  have hflsp : ∀ j ∈ fl, j ∉ sp := fun j hj h => by
    have := (hfl j hj).1.1.1
    rw [List.contains_eq_mem] at this
    simp [h] at this
  have getT : ∀ (l : Array Bool) (k : Nat) (b c : Bool), k < l.size → l.getD k b = l.getD k c := by
    intro l k b c hk
    rw [Array.getD_eq_getD_getElem?, Array.getD_eq_getD_getElem?, Array.getElem?_eq_getElem hk]; rfl
  unfold regUB at hreg
  simp only [Bool.and_eq_true, beq_iff_eq, List.all_eq_true, List.mem_range, Option.isNone_iff_eq_none] at hreg
  obtain ⟨⟨⟨⟨hsize, held⟩, hown⟩, hmn⟩, hplain⟩ := hreg
  have hflm : ∀ j ∈ fl, j ≠ m := fun j hj e => hflsp j hj (by rw [e]; exact hmsp)
  have hdst : ∀ i, i < ops.size → i ≠ m → ∃ d, dstOf ops i = some d ∧ d < a0.tmps.size ∧ ∀ j, j < ops.size → j ≠ i → dstOf ops j ≠ some d := by
    intro i hi him
    obtain ⟨d, hd, hdl, hdd⟩ := ownB_out (hown i (by omega))
    refine ⟨d, hd, hdl, fun j hj hne => ?_⟩
    by_cases e : j = m
    · rw [e, hmn]; exact fun h => by cases h
    · exact hdd j (by omega) hne
  have hA0 : ∀ j ∈ fl, valAt ops (putL ops c fl a0) j = c j := by
    intro j hj
    obtain ⟨d, hd, hdl, _⟩ := hdst j (hfl j hj).1.1.2 (hflm j hj)
    have hs := (hfl j hj).2
    unfold slotsB at hs
    rw [hd] at hs
    unfold valAt
    rw [hd]
    exact slotJ fl hdl hs
  have hout : ∀ t, (∀ j ∈ fl, dstOf ops j ≠ some t) → (putL ops c fl a0).tmps.getD t undef = a0.tmps.getD t undef := by
    intro t ht
    exact slotO fl (List.all_eq_true.2 fun k hk => by simpa using ht k hk)
  have main : ∀ (fuel : Nat) (listed : Array Bool) (a : Act) (w : World) (dn rest : List Nat) (A : Act), listed.size = ops.size →
      ((List.range ops.size).filter fun j => !listed.getD j true).length ≤ fuel →
      (rest ≠ [] → W w) → SpineU P ops Q W rest A w → sp = dn ++ rest → (∀ i ∈ dn, listed.getD i true = true) → (∀ i ∈ rest, listed.getD i true = false) → a.defers = A.defers → a.tmps.size = A.tmps.size → A.tmps.size = a0.tmps.size →
      (∀ j ∈ fl, valAt ops A j = c j) → (∀ t, (∀ j ∈ dn, dstOf ops j ≠ some t) → (∀ j ∈ fl, dstOf ops j ≠ some t) → A.tmps.getD t undef = a0.tmps.getD t undef) → (∀ j ∈ dn, ∀ k, waitsB ops j k = true → listed.getD k true = true) →
      (∀ t, a.tmps.getD t undef = A.tmps.getD t undef ∨ ∃ j ∈ fl, listed.getD j true = false ∧ dstOf ops j = some t) →
      wpAny P .any ops Q fuel listed a w := by
    intro fuel
    have allUp : ∀ (listed : Array Bool), listed.size = ops.size → Region.ready .any ops listed = [] → ∀ j, j < ops.size → listed.getD j true = true := by
      intro listed hsz hr j
      induction j using Nat.strongRecOn with
      | ind j ih =>
        intro hj
        cases hl : listed.getD j true with
        | true => rfl
        | false =>
          exfalso
          obtain ⟨o, ho, he⟩ := eldB_out (held j (by omega))
          have : j ∈ Region.ready .any ops listed := mem_ready.2 ⟨hl, o, ho, fun e hem hb => by
            have hlt := he e hem hb
            have := ih e.on hlt (by omega)
            rw [Array.getD_eq_getD_getElem?] at this ⊢
            rw [Array.getElem?_eq_getElem (by omega)] at this ⊢
            exact this⟩
          rw [hr] at this
          cases this
    have done : ∀ (listed : Array Bool) (a : Act) (w : World) (dn rest : List Nat) (A : Act), (∀ j, j < ops.size → listed.getD j true = true) → SpineU P ops Q W rest A w → sp = dn ++ rest → (∀ i ∈ rest, listed.getD i true = false) →
        a.defers = A.defers → a.tmps.size = A.tmps.size → (∀ t, a.tmps.getD t undef = A.tmps.getD t undef ∨ ∃ j ∈ fl, listed.getD j true = false ∧ dstOf ops j = some t) → Q .normal a w := by
      intro listed a w dn rest A hall hS hdn hrest hd hs hrel
      cases rest with
      | cons i is =>
        have h1 := hrest i (.head _)
        rw [hall i (hspl i (by rw [hdn]; simp))] at h1
        cases h1
      | nil =>
        have h1 := putL_whole (ops := ops) A [] a hs hd (fun t => by
          rcases hrel t with h | ⟨j, hj, h1, _⟩
          · exact .inl h
          · rw [hall j (hfl j hj).1.1.2] at h1; cases h1)
        unfold putL at h1
        rw [h1]
        exact hS
    induction fuel with
    | zero =>
      intro listed a w dn rest A hsz hcnt hw hS hdn hdl hrest hd hs hs0 hv ho hC hrel
      have hall : ∀ j, j < ops.size → listed.getD j true = true := by
        intro j hj
        cases hl : listed.getD j true with
        | true => rfl
        | false =>
          have : j ∈ (List.range ops.size).filter fun j => !listed.getD j true := List.mem_filter.2 ⟨List.mem_range.2 hj, by simp only [hl]; rfl⟩
          rw [List.eq_nil_of_length_eq_zero (Nat.le_zero.1 hcnt)] at this
          cases this
      refine ⟨?_, done listed a w dn rest A hall hS hdn hrest hd hs hrel⟩
      apply List.eq_nil_iff_forall_not_mem.2
      intro j hj
      obtain ⟨h1, o, ho, _⟩ := mem_ready.1 hj
      have hlt : j < ops.size := (Array.getElem?_eq_some_iff.1 ho).1
      rw [hall j hlt] at h1
      cases h1
    | succ fuel ih =>
      intro listed a w dn rest A hsz hcnt hw hS hdn hdl hrest hd hs hs0 hv ho hC hrel
      refine ⟨fun hr => done listed a w dn rest A (allUp listed hsz hr) hS hdn hrest hd hs hrel, fun i hi => ?_⟩
      obtain ⟨hui, o, hoi, hall⟩ := mem_ready.1 hi
      have hlt : i < ops.size := (Array.getElem?_eq_some_iff.1 hoi).1
      have hlz : i < listed.size := by omega
      have hwt : ∀ j, waitsB ops i j = true → listed.getD j true = true := by
        intro j hj
        obtain ⟨o', ho', e, he, hb, rfl⟩ := waits_some hj
        rw [hoi] at ho'
        injection ho' with ho'
        subst ho'
        have h1 := hall e he hb
        rcases Nat.lt_or_ge e.on listed.size with hl | hl
        · rw [getT _ _ true false hl]
          exact h1
        · rw [Array.getD_eq_getD_getElem?, Array.getElem?_eq_none hl] at h1; cases h1
      have hset : ∀ j b, (listed.setIfInBounds i true).getD j b = if j = i then true else listed.getD j b := by
        intro j b
        rw [Array.getD_eq_getD_getElem?, Array.getD_eq_getD_getElem?, Array.getElem?_setIfInBounds]
        by_cases e : i = j
        · subst e; simp [hlz]
        · rw [if_neg e, if_neg (fun h => e h.symm)]
      have hcnt' : ((List.range ops.size).filter fun j => !(listed.setIfInBounds i true).getD j true).length ≤ fuel := by
        have := filter_less (p := fun j => !listed.getD j true) (q := fun j => !(listed.setIfInBounds i true).getD j true) (i := i) (l := List.range ops.size) (fun x hx => by
          rw [hset] at hx
          by_cases e : x = i
          · rw [if_pos e] at hx; cases hx
          · rw [if_neg e] at hx; exact hx) (List.mem_range.2 hlt) (by rw [hui]; rfl) (by rw [hset, if_pos rfl]; rfl)
        omega
      have hops : operandsOf ops i = o.op.operands.toList.filterMap fun | .tmp t => some t | _ => none := by unfold operandsOf; simp only [hoi]; try rfl
      have hndf : match o.op with | .defer _ => False | .select .. => False | _ => True := by
        have h2 := hplain i (by omega)
        unfold plainB at h2
        simp only [hoi] at h2
        revert h2
        cases o.op <;> simp
      have hcong : ∀ B : Act, (∀ t ∈ operandsOf ops i, B.tmps.getD t undef = a.tmps.getD t undef) → execOp B.eval o = execOp a.eval o := by
        intro B hB
        refine execOp_congr o (fun cs b e => by rw [e] at hndf; exact hndf) fun x hx => ?_
        cases x with
        | tmp t => exact hB t (by rw [hops]; exact List.mem_filterMap.2 ⟨.tmp t, by simpa using hx, rfl⟩)
        | _ => rfl
      by_cases him : i = m
      · have hf1 : i ∉ fl := fun h => hflm i h him
        have hdn0 : o.dst = none := by
          have h2 := hmn
          rw [← him] at h2
          unfold dstOf at h2
          rw [hoi] at h2
          exact h2
        have hput : ∀ (B : Act) (v : Value), B.put o.dst v = B := fun B v => by rw [hdn0]; rfl
        have hs1 : i ∈ sp := by
          rcases hcov i hlt with h | h
          · exact h
          · exact absurd h hf1
        have hhead : ∃ is, rest = i :: is := by
          have hmem : i ∈ dn ++ rest := by rw [← hdn]; exact hs1
          rcases List.mem_append.1 hmem with h | h
          · rw [hdl i h] at hui; cases hui
          · cases rest with
            | nil => cases h
            | cons x is =>
              by_cases e : i = x
              · exact ⟨is, by rw [e]⟩
              · exfalso
                have hmi : i ∈ is := by
                  rcases List.mem_cons.1 h with h | h
                  · exact absurd h e
                  · exact h
                obtain ⟨u, t, hut⟩ := List.append_of_mem hmi
                obtain ⟨pre, y, hy⟩ : ∃ pre y, x :: u = pre ++ [y] := ⟨(x :: u).dropLast, (x :: u).getLast (by simp), (List.dropLast_concat_getLast (by simp)).symm⟩
                have hsp2 : sp = (dn ++ pre) ++ y :: i :: t := by
                  rw [hdn, hut, ← List.cons_append, hy]
                  simp
                have hwy : waitsB ops i y = true := chain_at (d := dn ++ pre) (l := t) (by rw [← hsp2]; exact hch)
                have hyr : y ∈ x :: is := by
                  rw [hut, ← List.cons_append, hy]
                  simp
                have := hrest y hyr
                rw [hwt y hwy] at this
                cases this
        obtain ⟨is, rfl⟩ := hhead
        obtain ⟨o3, ho3, hg, hwp⟩ := hS
        rw [hoi] at ho3
        injection ho3 with ho3
        subst ho3
        have hAa : ∀ t ∈ operandsOf ops i, A.tmps.getD t undef = a.tmps.getD t undef := by
          intro t ht
          rcases hrel t with h3 | ⟨k, hk, h3, h4⟩
          · exact h3.symm
          · exfalso
            rcases hso i hs1 t ht k hk with h | h
            · exact absurd h4 (by simpa using h)
            · rw [hwt k h] at h3; cases h3
        unfold wpOp
        rw [hoi]
        simp only [Region.wanted, hg, if_true]
        left
        refine wp_two (hcong A hAa) hwp ?_
        rintro v w' ⟨hw', hS'⟩
        refine ih (listed.setIfInBounds i true) (a.put o.dst v) w' (dn ++ [i]) is (A.put o.dst v) (by simp [hsz]) hcnt' hw' hS' (by rw [hdn]; simp) (fun x hx => by
          rw [hset]
          split
          · rfl
          · rename_i hne
            rcases List.mem_append.1 hx with h | h
            · exact hdl x h
            · exact absurd (by simpa using h) hne) ?_ ?_ (by rw [put_size, put_size, hs]) (by rw [put_size, hs0]) ?_ ?_ ?_ ?_
        · intro x hx
          have hne : x ≠ i := by
            intro e
            subst e
            rw [hdn] at hnd
            have := (List.nodup_append.1 hnd).2.1
            exact (List.nodup_cons.1 this).1 hx
          rw [hset, if_neg hne]
          exact hrest x (.tail _ hx)
        · cases o.dst <;> exact hd
        · intro j hj
          rw [hput]; exact hv j hj
        · intro t ht ht2
          rw [hput]; exact ho t (fun j hj => ht j (List.mem_append_left _ hj)) ht2
        · intro j hj k hk
          rw [hset]
          split
          · rfl
          · rcases List.mem_append.1 hj with h | h
            · exact hC j h k hk
            · have : j = i := by simpa using h
              subst this
              exact hwt k hk
        · intro t
          rw [hput, hput]
          rcases hrel t with h3 | ⟨k, hk, h3, h4⟩
          · exact .inl h3
          · refine .inr ⟨k, hk, ?_, h4⟩
            rw [hset, if_neg (fun e2 => hf1 (by rw [← e2]; exact hk))]
            exact h3
      · obtain ⟨d, hdo, hdlt, hdd⟩ := hdst i hlt him
        have hdo' : o.dst = some d := by unfold dstOf at hdo; rw [hoi] at hdo; exact hdo
        have hval : ∀ (B : Act) (v : Value), B.tmps.size = a0.tmps.size → valAt ops (B.put o.dst v) i = v := by
          intro B v hB
          unfold valAt
          rw [hdo, hdo']
          exact put_same _ _ _ (by rw [hB]; exact hdlt)
        by_cases hf1 : i ∈ fl
        · -- one that floats
          have hg := (hfl i hf1).1.2
          rw [hoi, Option.bind_some, Option.isNone_iff_eq_none] at hg
          have hwr : rest ≠ [] := by
            intro e
            rw [e, List.append_nil] at hdn
            obtain ⟨l, hl⟩ : ∃ l, sp.getLast? = some l := ⟨sp.getLast hne, List.getLast?_eq_some_getLast hne⟩
            have hmem : l ∈ dn := by rw [← hdn]; exact List.mem_of_getLast? hl
            have := hC l hmem i (hlw l hl i hf1)
            rw [hui] at this
            cases this
          obtain ⟨o3, ho3, hrun⟩ := hF i hf1 w (hw hwr)
          rw [hoi] at ho3
          injection ho3 with ho3
          subst ho3
          have hA0a : ∀ t ∈ operandsOf ops i, (putL ops c fl a0).tmps.getD t undef = a.tmps.getD t undef := by
            intro t ht
            rcases hfo i hf1 t ht with h | h
            · rw [List.any_eq_true] at h
              obtain ⟨j, hj, h⟩ := h
              rw [Bool.and_eq_true, beq_iff_eq] at h
              have h1 := hA0 j hj
              have h2 := hv j hj
              unfold valAt at h1 h2
              rw [h.2] at h1 h2
              rcases hrel t with h3 | ⟨k, hk, h3, h4⟩
              · rw [h3]; exact h1.trans h2.symm
              · exfalso
                obtain ⟨dj, hdj, _, hdd2⟩ := hdst j (hfl j hj).1.1.2 (hflm j hj)
                rw [h.2] at hdj
                injection hdj with hdj
                subst hdj
                have hkj : k = j := by
                  apply Classical.byContradiction
                  intro hne
                  exact hdd2 k (hfl k hk).1.1.2 hne h4
                rw [hkj, hwt j h.1] at h3
                cases h3
            · have h' : ∀ j ∈ fl, dstOf ops j ≠ some t := fun j hj => by simpa using h.1 j hj
              rw [hout t h', ← ho t (fun j hj e => by
                rcases h.2 j (by rw [hdn]; exact List.mem_append_left _ hj) with h5 | h5
                · exact absurd e (by simpa using h5)
                · have := hC j hj i h5
                  rw [hui] at this
                  cases this) h']
              rcases hrel t with h3 | ⟨k, hk, _, h4⟩
              · exact h3.symm
              · exact absurd h4 (h' k hk)
          have hrun' : (execOp a.eval o).run P w = .ok (.value (c i)) w := by rw [← hcong _ hA0a]; exact hrun
          unfold wpOp
          rw [hoi]
          simp only [Region.wanted, hg, if_true]
          left
          unfold Oper.wp
          rw [hrun']
          simp only [Oper.upon]
          refine ih (listed.setIfInBounds i true) (a.put o.dst (c i)) w dn rest A (by simp [hsz]) hcnt' hw hS hdn (fun x hx => by rw [hset]; split; rfl; exact hdl x hx) ?_ ?_ (by rw [put_size, hs]) hs0 hv ho (fun j hj k hk => by rw [hset]; split; rfl; exact hC j hj k hk) ?_
          · intro x hx
            rw [hset, if_neg (fun e => hflsp i hf1 (by rw [hdn, ← e]; exact List.mem_append_right _ hx))]
            exact hrest x hx
          · rw [← hd]; cases o.dst <;> rfl
          · intro t
            by_cases e : dstOf ops i = some t
            · left
              have h2 := hv i hf1
              unfold valAt at h2
              rw [e] at h2
              rw [hdo] at e
              injection e with e
              subst e
              rw [hdo', put_same _ _ _ (by rw [hs, hs0]; exact hdlt)]
              exact h2.symm
            · rw [put_other _ _ _ _ (by rw [hdo', ← hdo]; exact e)]
              rcases hrel t with h3 | ⟨k, hk, h3, h4⟩
              · exact .inl h3
              · refine .inr ⟨k, hk, ?_, h4⟩
                rw [hset, if_neg (fun e2 => e (by rw [← e2]; exact h4))]
                exact h3
        · -- one of the row
          have hs1 : i ∈ sp := by
            rcases hcov i hlt with h | h
            · exact h
            · exact absurd h hf1
          have hhead : ∃ is, rest = i :: is := by
            have hmem : i ∈ dn ++ rest := by rw [← hdn]; exact hs1
            rcases List.mem_append.1 hmem with h | h
            · rw [hdl i h] at hui; cases hui
            · cases rest with
              | nil => cases h
              | cons x is =>
                by_cases e : i = x
                · exact ⟨is, by rw [e]⟩
                · exfalso
                  have hmi : i ∈ is := by
                    rcases List.mem_cons.1 h with h | h
                    · exact absurd h e
                    · exact h
                  obtain ⟨u, t, hut⟩ := List.append_of_mem hmi
                  obtain ⟨pre, y, hy⟩ : ∃ pre y, x :: u = pre ++ [y] := ⟨(x :: u).dropLast, (x :: u).getLast (by simp), (List.dropLast_concat_getLast (by simp)).symm⟩
                  have hsp2 : sp = (dn ++ pre) ++ y :: i :: t := by
                    rw [hdn, hut, ← List.cons_append, hy]
                    simp
                  have hwy : waitsB ops i y = true := chain_at (d := dn ++ pre) (l := t) (by rw [← hsp2]; exact hch)
                  have hyr : y ∈ x :: is := by
                    rw [hut, ← List.cons_append, hy]
                    simp
                  have := hrest y hyr
                  rw [hwt y hwy] at this
                  cases this
          obtain ⟨is, rfl⟩ := hhead
          obtain ⟨o3, ho3, hg, hwp⟩ := hS
          rw [hoi] at ho3
          injection ho3 with ho3
          subst ho3
          have hAa : ∀ t ∈ operandsOf ops i, A.tmps.getD t undef = a.tmps.getD t undef := by
            intro t ht
            rcases hrel t with h3 | ⟨k, hk, h3, h4⟩
            · exact h3.symm
            · exfalso
              rcases hso i hs1 t ht k hk with h | h
              · exact absurd h4 (by simpa using h)
              · rw [hwt k h] at h3; cases h3
          unfold wpOp
          rw [hoi]
          simp only [Region.wanted, hg, if_true]
          left
          refine wp_two (hcong A hAa) hwp ?_
          rintro v w' ⟨hw', hS'⟩
          refine ih (listed.setIfInBounds i true) (a.put o.dst v) w' (dn ++ [i]) is (A.put o.dst v) (by simp [hsz]) hcnt' hw' hS' (by rw [hdn]; simp) (fun x hx => by
            rw [hset]
            split
            · rfl
            · rename_i hne
              rcases List.mem_append.1 hx with h | h
              · exact hdl x h
              · exact absurd (by simpa using h) hne) ?_ ?_ (by rw [put_size, put_size, hs]) (by rw [put_size, hs0]) ?_ ?_ ?_ ?_
          · intro x hx
            have hne : x ≠ i := by
              intro e
              subst e
              rw [hdn] at hnd
              have := (List.nodup_append.1 hnd).2.1
              exact (List.nodup_cons.1 this).1 hx
            rw [hset, if_neg hne]
            exact hrest x (.tail _ hx)
          · cases o.dst <;> exact hd
          · intro j hj
            rw [← hv j hj]
            unfold valAt
            cases hjd : dstOf ops j with
            | none => rfl
            | some dj =>
              simp only
              refine put_other _ _ _ _ ?_
              rw [hdo']
              intro e
              have hji : j ≠ i := fun e2 => hf1 (by rw [← e2]; exact hj)
              exact hdd j (hfl j hj).1.1.2 hji (by rw [hjd]; exact e.symm)
          · intro t ht ht2
            rw [put_other _ _ _ _ (by rw [hdo', ← hdo]; exact ht i (by simp))]
            exact ho t (fun j hj => ht j (List.mem_append_left _ hj)) ht2
          · intro j hj k hk
            rw [hset]
            split
            · rfl
            · rcases List.mem_append.1 hj with h | h
              · exact hC j h k hk
              · have : j = i := by simpa using h
                subst this
                exact hwt k hk
          · intro t
            by_cases e : o.dst = some t
            · left
              rw [e]
              rw [hdo'] at e
              injection e with e
              subst e
              rw [put_same _ _ _ (by rw [hs, hs0]; exact hdlt), put_same _ _ _ (by rw [hs0]; exact hdlt)]
            · rw [put_other _ _ _ _ e, put_other _ _ _ _ e]
              rcases hrel t with h3 | ⟨k, hk, h3, h4⟩
              · exact .inl h3
              · refine .inr ⟨k, hk, ?_, h4⟩
                rw [hset, if_neg (fun e2 => hf1 (by rw [← e2]; exact hk))]
                exact h3
  refine wp_region_any hm ?_
  refine main ops.size (Array.replicate ops.size false) a0 w0.drew [] sp (putL ops c fl a0) (by simp) ?_ (fun _ => hW) fin rfl (fun x hx => by cases hx) ?_ (putL_defers c fl a0).symm (putL_size c fl a0).symm (putL_size c fl a0) hA0 (fun t _ h => hout t h) (fun j hj => by cases hj) ?_
  · exact Nat.le_trans (List.length_filter_le _ _) (by simp)
  · intro i hi
    rw [Array.getD_eq_getD_getElem?, Array.getElem?_eq_getElem (by simpa using hspl i hi)]
    simp
  · intro t
    by_cases e : ∃ j ∈ fl, dstOf ops j = some t
    · obtain ⟨j, hj, hjd⟩ := e
      refine .inr ⟨j, hj, ?_, hjd⟩
      rw [Array.getD_eq_getD_getElem?, Array.getElem?_eq_getElem (by simpa using (hfl j hj).1.1.2)]
      simp
    · left
      exact (slotO fl (List.all_eq_true.2 fun k hk => by
        have : dstOf ops k ≠ some t := fun h => e ⟨k, hk, h⟩
        simpa using this)).symm
/-- region_spine, by a list of places, slots and values. -/
theorem region_by_spineU {id : Nat} (m : Nat) (sp : List Nat) (fl : List (Nat × Tmp × Value)) (W : World → Prop) (hm : P.follows .mixedOrders = true) (hreg : regUB ops m a0.tmps.size = true) (hmsp : decide (m ∈ sp) = true) (hsp : spineB ops sp (fl.map (·.1)) = true) (hlw : (match sp.getLast? with | some l => (fl.map (·.1)).all fun i => waitsB ops l i | none => false) = true)
    (hd : (fl.map fun x => dstOf ops x.1) = fl.map fun x => some x.2.1) (hn : decide ((fl.map (·.1)).Nodup) = true) (hW : W w0.drew)
    (hF : ∀ x ∈ fl, ∀ w ρ, W w → (∀ t, ρ (.tmp t) = (putA fl a0).tmps.getD t undef) → (∀ c, ρ (.const c) = c) → ∃ o, ops[x.1]? = some o ∧ (execOp ρ o).run P w = .ok (.value x.2.2) w)
    (fin : SpineU P ops Q W sp (putA fl a0) w0.drew) : (Code.region id ops true).wp P Q a0 w0 := by
  have hall : ∀ x ∈ fl, valOf fl x.1 = x.2.2 ∧ dstOf ops x.1 = some x.2.1 := fun x hx => ⟨valOf_mem fl (of_decide_eq_true hn) x hx, by
    obtain ⟨k, hk, rfl⟩ := List.getElem_of_mem hx
    have := congrArg (fun l => l[k]?) hd
    simpa [hk] using this⟩
  have he := putL_putA (ops := ops) (valOf fl) fl a0 hall
  refine region_spineU sp (fl.map (·.1)) (valOf fl) W hm hreg (of_decide_eq_true hmsp) hsp (fun e => by rw [e] at hlw; cases hlw) (fun l hl i hi => by rw [show sp.getLast? = some l from hl] at hlw; exact List.all_eq_true.1 hlw i hi) hW ?_ (by rw [he]; exact fin)
  intro i hi w hw
  obtain ⟨x, hx, rfl⟩ := List.mem_map.1 hi
  rw [(hall x hx).1, he]
  exact hF x hx w _ hw (fun t => rfl) (fun c => rfl)
end
end Go.Proofs.Ytaminpfgkegibaa
/- The law's Of: the same graph in the other package's types. Conditions: lengths. -/
namespace Go.Proofs.Ytaminpfgkegibaa
set_option linter.unusedVariables false
set_option linter.unusedSimpArgs false
open Go.RowKit Go.Maps
theorem Kept.bel {S : Nat → Prop} {a b c : World} (h : Kept S a b) (hb : Below a.heap.size b c) : Kept S a c :=
  ⟨hb.os.trans h.os, hb.tape.trans h.tape, hb.output.trans h.output, Nat.le_trans h.size hb.size, fun i hi hn => (hb.block i hi).trans (h.block i hi hn)⟩
theorem infoN7 : (Try.prog.info? 102).map (fun i => (i.zero, i.size, i.bytes)) = some (some (.agg #[.slice none 0 0, .slice none 0 0]), 2, 48) := by kernel_rfl
theorem infoR7 : (Try.prog.info? 103).map (fun i => (i.zero, i.size, i.bytes)) = some (some (.agg #[.string { data := #[] }, .int .i64 0]), 2, 24) := by kernel_rfl
theorem of_res {tmps : Array Value} {W : World} {g : Nat} {a b : Value} (hb : Bk W g 52 #[a, b]) (h2 : tmps.getD 2 undef = .pointer (some ⟨g, 0, none⟩)) :
    (results Try.f19 tmps).run Try.prog W = .ok (.agg #[a, b]) W := by
  have hl := run_loadVar_row (P := Try.prog) W g 52 52 #[a, b] (0, 0) _ hb Try.underlying52 rfl (by kernel_rfl)
  have h2' : tmps[2]?.getD undef = .pointer (some ⟨g, 0, none⟩) := by simpa using h2
  simp [results, Try.results19, h2', asAddr, hl]
theorem two_news {W : World} {q : Nat} {E : TypeId} {u0 u1 : Value} (h : Bk W q E #[u0, u1]) : ∀ (i : Nat) (u : Value), [u0, u1][i]? = some u → W.cell? ((⟨q, 0, none⟩ : Addr).add i) = some u := fun i u hu => by
  have hj : i < 2 := by have := (List.getElem?_eq_some_iff.1 hu).1; simpa using this
  rw [addr_at, h.cell]
  rcases (show i = 0 ∨ i = 1 by omega) with rfl | rfl
  · simpa using hu
  · simpa using hu
/-- What Of works on. -/
structure OfS (w W1 W : World) (q f k : Nat) (E : TypeId) (VA : Option Addr) (vc : Nat) (vals : List Value) (cs : Array Value) : Prop where
  row : W.ownsRow W1.heap.size E 2 (.slice VA k vc) k vals
  bk : Bk W q 52 cs
  kp : Kept (fun b => b = q) W1 W
  lt : q < W1.heap.size
theorem nrow_of {W : World} {base n c : Nat} {E : TypeId} {A : Option Addr} {xs : List Nv} (h : W.ownsRow base E 2 (.slice A n c) xs.length (xs.flatMap Nv.cs)) (hx : ∀ x ∈ xs, x.At W W.heap.size) : NRow W W.heap.size A xs := fun i hi => by
  obtain ⟨q, e, hb, hq, hc⟩ := own_cell2 (f := Nv.cs) (fun _ => rfl) h i hi
  have e0 := addr_at q (i * 2)
  refine ⟨_, e, hq, ?_, ?_, hx _ (List.getElem_mem _)⟩
  · rw [e0]; exact hc 0 (by decide)
  · rw [e0]; exact hc 1 (by decide)
theorem rrow_of {W : World} {base n c : Nat} {E : TypeId} {A : Option Addr} {xs : List Rv} (h : W.ownsRow base E 2 (.slice A n c) xs.length (xs.flatMap Rv.cs)) : RoRow W W.heap.size A xs := fun i hi => by
  obtain ⟨q, e, hb, hq, hc⟩ := own_cell2 (f := Rv.cs) (fun _ => rfl) h i hi
  have e0 := addr_at q (i * 2)
  refine ⟨_, e, hq, ?_, ?_⟩
  · rw [e0]; exact hc 0 (by decide)
  · rw [e0]; exact hc 1 (by decide)
theorem row_kept {a b : World} {base n c m : Nat} {E : TypeId} {A : Option Addr} {S : Nat → Prop} {cs : List Value} (hK : Kept S a b) (h : a.ownsRow base E 2 (.slice A n c) m cs) (hS : ∀ k, S k → k < base) : b.ownsRow base E 2 (.slice A n c) m cs := by
  obtain ⟨h1, h2⟩ := h
  refine ⟨h1, ?_⟩
  rcases h2 with h2 | ⟨g, cap, cur, e, hg, hh, r⟩
  · exact .inl h2
  · exact .inr ⟨g, cap, cur, e, hg, (hK.block g (Array.getElem?_eq_some_iff.1 hh).1 (fun hs => by have := hS g hs; omega)).trans hh, r⟩
set_option maxHeartbeats 4000000
set_option maxRecDepth 100000
theorem of_c (w : World) (g : Gv) (hg : g.At w w.heap.size) (hs : FewP g) : Calls Try.prog 19 #[g.v] w fun e w' => ∃ g' : Gv, e = .returned g'.v ∧ g'.At w' w'.heap.size ∧ g'.n = g.n ∧ g'.r = g.r ∧ Below w.heap.size w w' := by
  have HG := Lib.hid hg
  obtain ⟨A, ca, A2, ca2, ns, rs⟩ := g
  obtain ⟨N, hN⟩ : ∃ N, N = ns.length := ⟨_, rfl⟩
  obtain ⟨M, hM⟩ : ∃ M, M = rs.length := ⟨_, rfl⟩
  have HN := Lib.hid (And.intro hN hM)
  have q0 : (N : Int) ≤ 60 := by rw [hN]; exact Int.ofNat_le.2 hs.1
  have q1 : (M : Int) ≤ 80 := by rw [hM]; exact Int.ofNat_le.2 hs.2.1
  unfold Gv.v Gv.vn Gv.vr
  simp only
  rw [← hN, ← hM]
  clear hg hs hN hM
  go_enter Try.func19, Try.ntmps19
  go_wp2_with fail
  obtain ⟨q, hq⟩ : ∃ q, q = w.heap.size + 1 + 1 := ⟨_, rfl⟩
  obtain ⟨W1, hW1⟩ : ∃ W1, W1 = ((w.alloc (.cells #[.slice A N ca, .slice A2 M ca2] 29)).alloc (.cells #[.slice none 0 0, .slice none 0 0] 52)).alloc (.cells #[.slice none 0 0, .slice none 0 0] 52) := ⟨_, rfl⟩
  have HW1 := Lib.hid (show Bk W1 w.heap.size 29 #[.slice A N ca, .slice A2 M ca2] ∧ Bk W1 (w.heap.size + 1) 52 #[.slice none 0 0, .slice none 0 0] ∧ Below w.heap.size w W1 ∧ q = w.heap.size + 2 from by
    rw [hW1]
    have k1 := Bk.new (w.alloc (.cells #[.slice A N ca, .slice A2 M ca2] 29)) 52 #[.slice none 0 0, .slice none 0 0]
    simp only [World.size_alloc] at k1
    exact ⟨((Bk.new w _ _).alloc _).alloc _, k1.alloc _, (Gw.alloc w _).trans (((Gw.alloc _ _).trans ((Gw.alloc _ _).mono (by simp))).mono (by simp)), hq⟩)
  have HX1 := Lib.hid (show Bk W1 q 52 #[.slice none 0 0, .slice none 0 0] from by
    have k1 := Bk.new ((w.alloc (.cells #[.slice A N ca, .slice A2 M ca2] 29)).alloc (.cells #[.slice none 0 0, .slice none 0 0] 52)) 52 #[.slice none 0 0, .slice none 0 0]
    simp only [World.size_alloc] at k1
    rw [hW1, hq]; exact k1)
  rw [← hq, ← hW1]
  clear hq hW1
  go_loopw [4] (fun i W => ∃ (k : Nat) (VA : Option Addr) (vc : Nat), i = .int .i64 k ∧ k ≤ N ∧ OfS w W1 W q 0 k 102 VA vc ((ns.take k).flatMap Nv.cs) #[.slice VA k vc, .slice none 0 0]) (fun i _ => N - (Go.RowKit.intOf i).toNat)
  case atStart => exact ⟨0, none, 0, rfl, Nat.zero_le _, ⟨by simp, .inl ⟨rfl, rfl⟩⟩, HX1.out, Kept.refl _ _, HX1.out.lt⟩
  case round =>
    obtain ⟨k, VA, vc, rfl, hk, hS⟩ := hrel
    have HS := Lib.hid hS
    clear hS
    by_cases hlt : k < N
    · have hkl : k < ns.length := by rw [← HN.out.1]; exact hlt
      obtain ⟨x, hx⟩ : ∃ x, x = ns[k] := ⟨_, rfl⟩
      obtain ⟨ad, rfl, had, hc2, hc3⟩ : ∃ ad, A = some ad ∧ ad.block < w.heap.size ∧ w.cell? (ad.add (k * 2)) = some x.vp ∧ w.cell? ⟨(ad.add (k * 2)).block, (ad.add (k * 2)).off + 1, none⟩ = some x.vd := by
        obtain ⟨ad, e, e2, h1, h2, h3⟩ := HG.out.n k hkl
        exact ⟨ad, e, e2, by rw [hx]; exact h1, by rw [hx]; exact h2⟩
      have HT := Lib.hid (show (ns.take (k + 1)).flatMap Nv.cs = (ns.take k).flatMap Nv.cs ++ [x.vp, x.vd] from by rw [take_snoc ns k hkl, List.flatMap_append, ← hx]; simp [Nv.cs])
      obtain ⟨xA, xc, xD, xd, xps, xbs⟩ := x
      obtain ⟨xn, hxn⟩ : ∃ n, n = xps.length := ⟨_, rfl⟩
      obtain ⟨xm, hxm⟩ : ∃ n, n = xbs.length := ⟨_, rfl⟩
      unfold Nv.vp at hc2
      unfold Nv.vd at hc3
      unfold Nv.vp Nv.vd at HT
      simp only at hc2 hc3 HT
      rw [← hxn] at hc2 HT
      rw [← hxm] at hc3 HT
      clear hxn hxm hx hkl
      have HCK := Lib.hid (fun (W : World) (hK : Kept (fun b => b = q) W1 W) => show W.cell? ⟨w.heap.size, 0, none⟩ = some (.slice (some ad) N ca) ∧ W.cell? (ad.add (k * 2)) = some (.slice xA xn xc) ∧ W.cell? ⟨(ad.add (k * 2)).block, (ad.add (k * 2)).off + 1, none⟩ = some (.slice xD xm xd) from by
        have hb := hK.bk HW1.out.1 (show ¬ (w.heap.size = q) from by have := HW1.out.2.2.2; omega)
        have hw : Below w.heap.size w W := HW1.out.2.2.1.trans (hK.below HW1.out.2.2.1.size (fun c e => by rw [e]; have := HW1.out.2.2.2; omega))
        exact ⟨hb.cell 0, (hw.cell (cell_lt hc2)).trans hc2, (hw.cell (cell_lt hc3)).trans hc3⟩)
      have p1 : (0 : Int) ≤ (k : Int) := by omega
      have p2 : (k : Int) < (N : Int) := by omega
      have hw0 : wr.drew.cell? ⟨q, 0, none⟩ = some (.slice VA k vc) ∧ wr.drew.cell? ⟨w.heap.size, 0, none⟩ = some (.slice (some ad) N ca) ∧ wr.drew.cell? (ad.add (k * 2)) = some (.slice xA xn xc) ∧ wr.drew.cell? ⟨(ad.add (k * 2)).block, (ad.add (k * 2)).off + 1, none⟩ = some (.slice xD xm xd) := ⟨(HS.out.bk.below (Gw.drew wr) HS.out.bk.lt).cell 0, HCK.out _ (HS.out.kp.trans (Kept.of_below (Gw.drew wr) _))⟩
      have hg0 := (HCK.out _ HS.out.kp).1
      clear hc2 hc3 had
      go_wp2_with fail
      clear hg0
      refine region_by_spineU 18 [15, 16, 18] [(0, 14, .pointer (some ⟨q, 0, none⟩)), (1, 15, .slice VA k vc), (2, 16, .pointer (some ⟨w.heap.size, 0, none⟩)), (3, 17, .slice (some ad) N ca), (4, 18, .int .i64 k), (5, 19, .pointer (some (ad.add (k * 2)))), (6, 20, .pointer (some (ad.add (k * 2)))), (7, 21, .slice xA xn xc), (8, 22, .pointer (some ⟨w.heap.size, 0, none⟩)), (9, 23, .slice (some ad) N ca), (10, 24, .int .i64 k), (11, 25, .pointer (some (ad.add (k * 2)))), (12, 26, .pointer (some ⟨(ad.add (k * 2)).block, (ad.add (k * 2)).off + 1, none⟩)), (13, 27, .slice xD xm xd), (14, 28, .agg #[.slice xA xn xc, .slice xD xm xd]), (17, 31, .pointer (some ⟨q, 0, none⟩))]
        (fun W => W.cell? ⟨q, 0, none⟩ = some (.slice VA k vc) ∧ W.cell? ⟨w.heap.size, 0, none⟩ = some (.slice (some ad) N ca) ∧ W.cell? (ad.add (k * 2)) = some (.slice xA xn xc) ∧ W.cell? ⟨(ad.add (k * 2)).block, (ad.add (k * 2)).off + 1, none⟩ = some (.slice xD xm xd)) (by kernel_rfl) (by kernel_rfl) (by kernel_rfl) (by kernel_rfl) (by kernel_rfl) (by kernel_rfl) (by kernel_rfl) hw0 ?_ ?_
      · intro y hy V ρ hV hρ hcst
        obtain ⟨k1, k2, k3, k4⟩ := hV
        have e1 : ρ (.tmp 1) = .pointer (some ⟨w.heap.size, 0, none⟩) := (hρ 1).trans (by kernel_rfl)
        have e3 : ρ (.tmp 3) = .pointer (some ⟨q, 0, none⟩) := (hρ 3).trans (by kernel_rfl)
        have e4 : ρ (.tmp 4) = .int .i64 k := (hρ 4).trans (by kernel_rfl)
        have e14 : ρ (.tmp 14) = .pointer (some ⟨q, 0, none⟩) := (hρ 14).trans (by kernel_rfl)
        have e15 : ρ (.tmp 15) = .slice VA k vc := (hρ 15).trans (by kernel_rfl)
        have e16 : ρ (.tmp 16) = .pointer (some ⟨w.heap.size, 0, none⟩) := (hρ 16).trans (by kernel_rfl)
        have e17 : ρ (.tmp 17) = .slice (some ad) N ca := (hρ 17).trans (by kernel_rfl)
        have e18 : ρ (.tmp 18) = .int .i64 k := (hρ 18).trans (by kernel_rfl)
        have e19 : ρ (.tmp 19) = .pointer (some (ad.add (k * 2))) := (hρ 19).trans (by kernel_rfl)
        have e20 : ρ (.tmp 20) = .pointer (some (ad.add (k * 2))) := (hρ 20).trans (by kernel_rfl)
        have e21 : ρ (.tmp 21) = .slice xA xn xc := (hρ 21).trans (by kernel_rfl)
        have e22 : ρ (.tmp 22) = .pointer (some ⟨w.heap.size, 0, none⟩) := (hρ 22).trans (by kernel_rfl)
        have e23 : ρ (.tmp 23) = .slice (some ad) N ca := (hρ 23).trans (by kernel_rfl)
        have e24 : ρ (.tmp 24) = .int .i64 k := (hρ 24).trans (by kernel_rfl)
        have e25 : ρ (.tmp 25) = .pointer (some (ad.add (k * 2))) := (hρ 25).trans (by kernel_rfl)
        have e26 : ρ (.tmp 26) = .pointer (some ⟨(ad.add (k * 2)).block, (ad.add (k * 2)).off + 1, none⟩) := (hρ 26).trans (by kernel_rfl)
        have e27 : ρ (.tmp 27) = .slice xD xm xd := (hρ 27).trans (by kernel_rfl)
        clear hρ
        simp only [List.mem_cons, List.not_mem_nil, or_false] at hy
        rcases hy with rfl | rfl | rfl | rfl | rfl | rfl | rfl | rfl | rfl | rfl | rfl | rfl | rfl | rfl | rfl | rfl
        all_goals
          refine ⟨_, rfl, ?_⟩
          go_simp
          try rfl
      simp only [putA, putD, Act.put, List.setIfInBounds_toArray, List.set_cons_zero, List.set_cons_succ]
      refine spineU_list rfl rfl rfl ?_
      go_wp2_with fail
      have b3 : Below wr.heap.size wr (wr.drew.alloc (.cells #[.slice xA xn xc, .slice xD xm xd] 102)) := (Gw.drew wr).trans ((Gw.alloc wr.drew _).mono (Gw.drew wr).size)
      have E3 : Bk (wr.drew.alloc (.cells #[.slice xA xn xc, .slice xD xm xd] 102)) wr.heap.size 102 #[.slice xA xn xc, .slice xD xm xd] := Bk.new wr.drew 102 #[.slice xA xn xc, .slice xD xm xd]
      have q3 := HS.out.bk.below b3 HS.out.bk.lt
      have HW3 := Lib.hid (show (wr.drew.alloc (.cells #[.slice xA xn xc, .slice xD xm xd] 102)).cell? ⟨q, 0, none⟩ = some (.slice VA k vc) ∧ (wr.drew.alloc (.cells #[.slice xA xn xc, .slice xD xm xd] 102)).cell? ⟨w.heap.size, 0, none⟩ = some (.slice (some ad) N ca) ∧ (wr.drew.alloc (.cells #[.slice xA xn xc, .slice xD xm xd] 102)).cell? (ad.add (k * 2)) = some (.slice xA xn xc) ∧ (wr.drew.alloc (.cells #[.slice xA xn xc, .slice xD xm xd] 102)).cell? ⟨(ad.add (k * 2)).block, (ad.add (k * 2)).off + 1, none⟩ = some (.slice xD xm xd) from ⟨q3.cell 0, HCK.out _ (HS.out.kp.trans (Kept.of_below b3 _))⟩)
      refine ⟨rfl, (by first | exact HW3.out | exact fun _ => HW3.out), ?_⟩
      refine spineU_list rfl rfl rfl ?_
      obtain ⟨i0, hi, hz0, hz1, hz2⟩ := info_parts infoN7
      have ho3 := ownsRow_below HS.out.row b3
      refine wp_appR 2 i0 Try.underlying49 hi hz0 hz1 hz2 (by rfl) (by decide) rfl (.tmp 15) (.tmp 29) rfl W1.heap.size _ k _ rfl ho3 ⟨wr.heap.size, 0, none⟩ 1 1 [.slice xA xn xc, .slice xD xm xd] rfl rfl (two_news E3) (fun u hu => ?_) (by unfold maxLen; omega) (by omega) (Nat.le_trans HS.out.kp.size b3.size) ?_
      · simp only [List.mem_cons, List.not_mem_nil, or_false] at hu
        rcases hu with rfl | rfl <;> rfl
      intro v5 w5 ho5 hb5 hg5 hv5
      obtain ⟨A5, c5, rfl⟩ := own_form ho5
      have hkp : Kept (fun b => b = q) W1 w5 := (HS.out.kp.trans (Kept.of_below b3 _)).bel hb5
      have hq5 := q3.below hb5 HS.out.lt
      have HW5 := Lib.hid (show w5.cell? ⟨q, 0, none⟩ = some (.slice VA k vc) ∧ w5.cell? ⟨w.heap.size, 0, none⟩ = some (.slice (some ad) N ca) ∧ w5.cell? (ad.add (k * 2)) = some (.slice xA xn xc) ∧ w5.cell? ⟨(ad.add (k * 2)).block, (ad.add (k * 2)).off + 1, none⟩ = some (.slice xD xm xd) from ⟨hq5.cell 0, HCK.out _ hkp⟩)
      have F5 := hq5.free 0
      have C5 := hq5.cell 0
      have H5 := Lib.hid (And.intro ho5 (And.intro hkp hq5))
      clear ho3 ho5 hb5 hg5 hv5 hi hz0 hz1 hz2 b3 E3 q3 hkp hq5 hw0
      refine ⟨rfl, (by first | exact HW5.out | exact fun _ => HW5.out), ?_⟩
      refine spineU_list rfl rfl rfl ?_
      go_wp2_with fail
      refine ⟨rfl, trivial, ?_⟩
      unfold SpineU
      have X : ∃ (k' : Nat) (VA' : Option Addr) (vc' : Nat), (Value.int .i64 ((k : Int) + 1)) = .int .i64 k' ∧ k' ≤ N ∧ OfS w W1 (w5.setCell ⟨q, 0, none⟩ (.slice A5 (k + 1) c5)) q 0 k' 102 VA' vc' ((ns.take k').flatMap Nv.cs) #[.slice VA' k' vc', .slice none 0 0] := by
        obtain ⟨h1, h2, h3⟩ := H5.out
        refine ⟨k + 1, A5, c5, by go_num, by omega, ?_, h3.set 0 _, h2.trans (Kept.set w5 q 0 _), HS.out.lt⟩
        rw [HT.out]
        refine World.ownsRow.kept h1 (grown_set w5 ⟨q, 0, none⟩ _) ?_
        cases e : (Value.slice A5 (k + 1) c5).ownBlock with
        | none => exact .inl rfl
        | some c => exact .inr (fun e2 => by injection e2 with e2; have e3 : c = q := e2; have h5 := (World.ownsRow.lt h1 c e).1; have := HS.out.lt; omega)
      clear F5 C5 H5 HS
      go_wp2_with fail
      go_roundw
      case rel => first | exact X | exact ⟨_, _, _, _, _, _, _, _, _, _, _, _, _, _, _, _, _, _, X, rfl⟩
      case measure => simp [Go.RowKit.intOf]; omega
    · have hkN : k = N := by omega
      subst hkN
      have HR := Lib.hid (show wr.ownsRow W1.heap.size 102 2 (.slice VA k vc) ns.length (ns.flatMap Nv.cs) ∧ q < W1.heap.size from by
        have h := HS.out.row
        rw [List.take_of_length_le (by rw [← HN.out.1]; exact Nat.le_refl _)] at h
        rw [← HN.out.1]
        exact ⟨h, HS.out.lt⟩)
      have HW2 := Lib.hid (show Bk wr w.heap.size 29 #[.slice A k ca, .slice A2 M ca2] ∧ Bk wr (w.heap.size + 1) 52 #[.slice none 0 0, .slice none 0 0] ∧ Below w.heap.size w wr ∧ q = w.heap.size + 2 from by
        obtain ⟨h1, h2, h3, h4⟩ := HW1.out
        have hK := HS.out.kp
        exact ⟨hK.bk h1 (by omega), hK.bk h2 (by omega), h3.trans (hK.below h3.size (fun c e => by rw [e]; omega)), h4⟩)
      have HX2 := Lib.hid HS.out.bk
      have e0 := HW2.out.1.two.1
      obtain ⟨B0, hB0⟩ : ∃ B0, B0 = W1.heap.size := ⟨_, rfl⟩
      rw [← hB0] at HR
      clear HS HW1 HX1 hB0
      go_wp2_with fail
      clear e0
      obtain ⟨W1, hW1⟩ : ∃ W1, W1 = wr := ⟨_, rfl⟩
      rw [← hW1] at HR HW2 HX2 ⊢
      have HW1 := Lib.hid HW2.out
      clear HW2 hW1 hlt hk
      obtain ⟨NA, hNA⟩ : ∃ NA, NA = VA := ⟨_, rfl⟩
      obtain ⟨nc, hnc⟩ : ∃ nc, nc = vc := ⟨_, rfl⟩
      rw [← hNA, ← hnc] at HR HX2
      clear hNA hnc
      obtain ⟨N, hNk⟩ : ∃ N, N = k := ⟨_, rfl⟩
      rw [← hNk] at HR HX2 HW1 HN q0 ⊢
      clear hNk
      go_loopw [5] (fun i W => ∃ (k : Nat) (VA : Option Addr) (vc : Nat), i = .int .i64 k ∧ k ≤ M ∧ OfS w W1 W q 1 k 103 VA vc ((rs.take k).flatMap Rv.cs) #[.slice NA N nc, .slice VA k vc]) (fun i _ => M - (Go.RowKit.intOf i).toNat)
      case atStart => exact ⟨0, none, 0, rfl, Nat.zero_le _, ⟨by simp, .inl ⟨rfl, rfl⟩⟩, HX2.out, Kept.refl _ _, HX2.out.lt⟩
      case round =>
        obtain ⟨k, VA, vc, rfl, hk, hS⟩ := hrel
        have HS := Lib.hid hS
        clear hS
        by_cases hlt : k < M
        · have hkl : k < rs.length := by rw [← HN.out.2]; exact hlt
          obtain ⟨x, hx⟩ : ∃ x, x = rs[k] := ⟨_, rfl⟩
          obtain ⟨ad, rfl, had, hc2, hc3⟩ : ∃ ad, A2 = some ad ∧ ad.block < w.heap.size ∧ w.cell? (ad.add (k * 2)) = some (.string x.s) ∧ w.cell? ⟨(ad.add (k * 2)).block, (ad.add (k * 2)).off + 1, none⟩ = some (.int .i64 x.t) := by
            obtain ⟨ad, e, e2, h1, h2⟩ := HG.out.r k hkl
            exact ⟨ad, e, e2, by rw [hx]; exact h1, by rw [hx]; exact h2⟩
          have HT := Lib.hid (show (rs.take (k + 1)).flatMap Rv.cs = (rs.take k).flatMap Rv.cs ++ [.string x.s, .int .i64 x.t] from by rw [take_snoc rs k hkl, List.flatMap_append, ← hx]; simp [Rv.cs])
          obtain ⟨rs2, rt⟩ := x
          simp only at hc2 hc3 HT
          clear hx hkl
          have HCK := Lib.hid (fun (W : World) (hK : Kept (fun b => b = q) W1 W) => show W.cell? ⟨w.heap.size, 1, none⟩ = some (.slice (some ad) M ca2) ∧ W.cell? (ad.add (k * 2)) = some (.string rs2) ∧ W.cell? ⟨(ad.add (k * 2)).block, (ad.add (k * 2)).off + 1, none⟩ = some (.int .i64 rt) from by
            have hb := hK.bk HW1.out.1 (show ¬ (w.heap.size = q) from by have := HW1.out.2.2.2; omega)
            have hw : Below w.heap.size w W := HW1.out.2.2.1.trans (hK.below HW1.out.2.2.1.size (fun c e => by rw [e]; have := HW1.out.2.2.2; omega))
            exact ⟨hb.cell 1, (hw.cell (cell_lt hc2)).trans hc2, (hw.cell (cell_lt hc3)).trans hc3⟩)
          have p1 : (0 : Int) ≤ (k : Int) := by omega
          have p2 : (k : Int) < (M : Int) := by omega
          have hw0 : wr.drew.cell? ⟨q, 1, none⟩ = some (.slice VA k vc) ∧ wr.drew.cell? ⟨w.heap.size, 1, none⟩ = some (.slice (some ad) M ca2) ∧ wr.drew.cell? (ad.add (k * 2)) = some (.string rs2) ∧ wr.drew.cell? ⟨(ad.add (k * 2)).block, (ad.add (k * 2)).off + 1, none⟩ = some (.int .i64 rt) := ⟨(HS.out.bk.below (Gw.drew wr) HS.out.bk.lt).cell 1, HCK.out _ (HS.out.kp.trans (Kept.of_below (Gw.drew wr) _))⟩
          have hg0 := (HCK.out _ HS.out.kp).1
          clear hc2 hc3 had
          go_wp2_with fail
          clear hg0
          refine region_by_spineU 18 [15, 16, 18] [(0, 39, .pointer (some ⟨q, 1, none⟩)), (1, 40, .slice VA k vc), (2, 41, .pointer (some ⟨w.heap.size, 1, none⟩)), (3, 42, .slice (some ad) M ca2), (4, 43, .int .i64 k), (5, 44, .pointer (some (ad.add (k * 2)))), (6, 45, .pointer (some (ad.add (k * 2)))), (7, 46, .string rs2), (8, 47, .pointer (some ⟨w.heap.size, 1, none⟩)), (9, 48, .slice (some ad) M ca2), (10, 49, .int .i64 k), (11, 50, .pointer (some (ad.add (k * 2)))), (12, 51, .pointer (some ⟨(ad.add (k * 2)).block, (ad.add (k * 2)).off + 1, none⟩)), (13, 52, .int .i64 rt), (14, 53, .agg #[.string rs2, .int .i64 rt]), (17, 56, .pointer (some ⟨q, 1, none⟩))]
            (fun W => W.cell? ⟨q, 1, none⟩ = some (.slice VA k vc) ∧ W.cell? ⟨w.heap.size, 1, none⟩ = some (.slice (some ad) M ca2) ∧ W.cell? (ad.add (k * 2)) = some (.string rs2) ∧ W.cell? ⟨(ad.add (k * 2)).block, (ad.add (k * 2)).off + 1, none⟩ = some (.int .i64 rt)) (by kernel_rfl) (by kernel_rfl) (by kernel_rfl) (by kernel_rfl) (by kernel_rfl) (by kernel_rfl) (by kernel_rfl) hw0 ?_ ?_
          · intro y hy V ρ hV hρ hcst
            obtain ⟨k1, k2, k3, k4⟩ := hV
            have e1 : ρ (.tmp 1) = .pointer (some ⟨w.heap.size, 0, none⟩) := (hρ 1).trans (by kernel_rfl)
            have e3 : ρ (.tmp 3) = .pointer (some ⟨q, 0, none⟩) := (hρ 3).trans (by kernel_rfl)
            have e5 : ρ (.tmp 5) = .int .i64 k := (hρ 5).trans (by kernel_rfl)
            have e39 : ρ (.tmp 39) = .pointer (some ⟨q, 1, none⟩) := (hρ 39).trans (by kernel_rfl)
            have e40 : ρ (.tmp 40) = .slice VA k vc := (hρ 40).trans (by kernel_rfl)
            have e41 : ρ (.tmp 41) = .pointer (some ⟨w.heap.size, 1, none⟩) := (hρ 41).trans (by kernel_rfl)
            have e42 : ρ (.tmp 42) = .slice (some ad) M ca2 := (hρ 42).trans (by kernel_rfl)
            have e43 : ρ (.tmp 43) = .int .i64 k := (hρ 43).trans (by kernel_rfl)
            have e44 : ρ (.tmp 44) = .pointer (some (ad.add (k * 2))) := (hρ 44).trans (by kernel_rfl)
            have e45 : ρ (.tmp 45) = .pointer (some (ad.add (k * 2))) := (hρ 45).trans (by kernel_rfl)
            have e46 : ρ (.tmp 46) = .string rs2 := (hρ 46).trans (by kernel_rfl)
            have e47 : ρ (.tmp 47) = .pointer (some ⟨w.heap.size, 1, none⟩) := (hρ 47).trans (by kernel_rfl)
            have e48 : ρ (.tmp 48) = .slice (some ad) M ca2 := (hρ 48).trans (by kernel_rfl)
            have e49 : ρ (.tmp 49) = .int .i64 k := (hρ 49).trans (by kernel_rfl)
            have e50 : ρ (.tmp 50) = .pointer (some (ad.add (k * 2))) := (hρ 50).trans (by kernel_rfl)
            have e51 : ρ (.tmp 51) = .pointer (some ⟨(ad.add (k * 2)).block, (ad.add (k * 2)).off + 1, none⟩) := (hρ 51).trans (by kernel_rfl)
            have e52 : ρ (.tmp 52) = .int .i64 rt := (hρ 52).trans (by kernel_rfl)
            clear hρ
            simp only [List.mem_cons, List.not_mem_nil, or_false] at hy
            rcases hy with rfl | rfl | rfl | rfl | rfl | rfl | rfl | rfl | rfl | rfl | rfl | rfl | rfl | rfl | rfl | rfl
            all_goals
              refine ⟨_, rfl, ?_⟩
              go_simp
              try rfl
          simp only [putA, putD, Act.put, List.setIfInBounds_toArray, List.set_cons_zero, List.set_cons_succ]
          refine spineU_list rfl rfl rfl ?_
          go_wp2_with fail
          have b3 : Below wr.heap.size wr (wr.drew.alloc (.cells #[.string rs2, .int .i64 rt] 103)) := (Gw.drew wr).trans ((Gw.alloc wr.drew _).mono (Gw.drew wr).size)
          have E3 : Bk (wr.drew.alloc (.cells #[.string rs2, .int .i64 rt] 103)) wr.heap.size 103 #[.string rs2, .int .i64 rt] := Bk.new wr.drew 103 #[.string rs2, .int .i64 rt]
          have q3 := HS.out.bk.below b3 HS.out.bk.lt
          have HW3 := Lib.hid (show (wr.drew.alloc (.cells #[.string rs2, .int .i64 rt] 103)).cell? ⟨q, 1, none⟩ = some (.slice VA k vc) ∧ (wr.drew.alloc (.cells #[.string rs2, .int .i64 rt] 103)).cell? ⟨w.heap.size, 1, none⟩ = some (.slice (some ad) M ca2) ∧ (wr.drew.alloc (.cells #[.string rs2, .int .i64 rt] 103)).cell? (ad.add (k * 2)) = some (.string rs2) ∧ (wr.drew.alloc (.cells #[.string rs2, .int .i64 rt] 103)).cell? ⟨(ad.add (k * 2)).block, (ad.add (k * 2)).off + 1, none⟩ = some (.int .i64 rt) from ⟨q3.cell 1, HCK.out _ (HS.out.kp.trans (Kept.of_below b3 _))⟩)
          refine ⟨rfl, (by first | exact HW3.out | exact fun _ => HW3.out), ?_⟩
          refine spineU_list rfl rfl rfl ?_
          obtain ⟨i0, hi, hz0, hz1, hz2⟩ := info_parts infoR7
          have ho3 := ownsRow_below HS.out.row b3
          refine wp_appR 2 i0 Try.underlying50 hi hz0 hz1 hz2 (by rfl) (by decide) rfl (.tmp 40) (.tmp 54) rfl W1.heap.size _ k _ rfl ho3 ⟨wr.heap.size, 0, none⟩ 1 1 [.string rs2, .int .i64 rt] rfl rfl (two_news E3) (fun u hu => ?_) (by unfold maxLen; omega) (by omega) (Nat.le_trans HS.out.kp.size b3.size) ?_
          · simp only [List.mem_cons, List.not_mem_nil, or_false] at hu
            rcases hu with rfl | rfl <;> rfl
          intro v5 w5 ho5 hb5 hg5 hv5
          obtain ⟨A5, c5, rfl⟩ := own_form ho5
          have hkp : Kept (fun b => b = q) W1 w5 := (HS.out.kp.trans (Kept.of_below b3 _)).bel hb5
          have hq5 := q3.below hb5 HS.out.lt
          have HW5 := Lib.hid (show w5.cell? ⟨q, 1, none⟩ = some (.slice VA k vc) ∧ w5.cell? ⟨w.heap.size, 1, none⟩ = some (.slice (some ad) M ca2) ∧ w5.cell? (ad.add (k * 2)) = some (.string rs2) ∧ w5.cell? ⟨(ad.add (k * 2)).block, (ad.add (k * 2)).off + 1, none⟩ = some (.int .i64 rt) from ⟨hq5.cell 1, HCK.out _ hkp⟩)
          have F5 := hq5.free 1
          have C5 := hq5.cell 1
          have H5 := Lib.hid (And.intro ho5 (And.intro hkp hq5))
          clear ho3 ho5 hb5 hg5 hv5 hi hz0 hz1 hz2 b3 E3 q3 hkp hq5 hw0
          refine ⟨rfl, (by first | exact HW5.out | exact fun _ => HW5.out), ?_⟩
          refine spineU_list rfl rfl rfl ?_
          go_wp2_with fail
          refine ⟨rfl, trivial, ?_⟩
          unfold SpineU
          have X : ∃ (k' : Nat) (VA' : Option Addr) (vc' : Nat), (Value.int .i64 ((k : Int) + 1)) = .int .i64 k' ∧ k' ≤ M ∧ OfS w W1 (w5.setCell ⟨q, 1, none⟩ (.slice A5 (k + 1) c5)) q 1 k' 103 VA' vc' ((rs.take k').flatMap Rv.cs) #[.slice NA N nc, .slice VA' k' vc'] := by
            obtain ⟨h1, h2, h3⟩ := H5.out
            refine ⟨k + 1, A5, c5, by go_num, by omega, ?_, h3.set 1 _, h2.trans (Kept.set w5 q 1 _), HS.out.lt⟩
            rw [HT.out]
            refine World.ownsRow.kept h1 (grown_set w5 ⟨q, 1, none⟩ _) ?_
            cases e : (Value.slice A5 (k + 1) c5).ownBlock with
            | none => exact .inl rfl
            | some c => exact .inr (fun e2 => by injection e2 with e2; have e3 : c = q := e2; have h5 := (World.ownsRow.lt h1 c e).1; have := HS.out.lt; omega)
          clear F5 C5 H5 HS
          go_wp2_with fail
          go_roundw
          case rel => first | exact X | exact ⟨_, _, _, _, _, _, _, _, _, _, _, _, _, _, _, _, _, _, X, rfl⟩
          case measure => simp [Go.RowKit.intOf]; omega
        · have hkM : k = M := by omega
          subst hkM
          have hK := HS.out.kp
          have HR2 := Lib.hid (show wr.ownsRow W1.heap.size 103 2 (.slice VA k vc) rs.length (rs.flatMap Rv.cs) from by
            have h := HS.out.row
            rw [List.take_of_length_le (by rw [← HN.out.2]; exact Nat.le_refl _)] at h
            rw [← HN.out.2]
            exact h)
          obtain ⟨h1, h2, h3, h4⟩ := HW1.out
          have hrb := hK.bk h2 (show ¬ (w.heap.size + 1 = q) from by omega)
          have hgb := hK.bk h1 (show ¬ (w.heap.size = q) from by omega)
          have hbw : Below w.heap.size w wr := h3.trans (hK.below h3.size (fun c e => by rw [e]; omega))
          have g0 := hgb.two.2
          have d0 := hrb.two.1
          have d1 := hrb.two.2
          have d2 := hrb.free 0
          have d3 := hrb.free 1
          have e0 := HS.out.bk.two.1
          have e1 := HS.out.bk.two.2
          have HF := Lib.hid (And.intro hrb (And.intro hbw (And.intro h4 (show W1.heap.size > w.heap.size + 1 from h2.lt))))
          clear h1 h2 h3 h4 hrb hgb hbw hK
          go_wp2_with fail
          obtain ⟨o1, o2, o3, o4⟩ := HF.out
          have hbz : Bk ((wr.setCell ⟨w.heap.size + 1, 0, none⟩ (.slice NA N nc)).setCell ⟨w.heap.size + 1, 1, none⟩ (.slice VA k vc)) (w.heap.size + 1) 52 #[.slice NA N nc, .slice VA k vc] := by
            have h := (o1.set 0 (.slice NA N nc)).set 1 (.slice VA k vc)
            simpa using h
          refine bodyPost_ret (v := .agg #[.slice NA N nc, .slice VA k vc]) (of_res hbz rfl) rfl ?_
          have hKf : Kept (fun b => b = w.heap.size + 1) wr ((wr.setCell ⟨w.heap.size + 1, 0, none⟩ (.slice NA N nc)).setCell ⟨w.heap.size + 1, 1, none⟩ (.slice VA k vc)) := (Kept.set wr _ 0 _).trans (Kept.set _ _ 1 _)
          have hbf : Below w.heap.size w ((wr.setCell ⟨w.heap.size + 1, 0, none⟩ (.slice NA N nc)).setCell ⟨w.heap.size + 1, 1, none⟩ (.slice VA k vc)) := o2.trans (hKf.below o2.size (fun c e => by rw [e]; omega))
          have r1 := row_kept hKf (row_kept HS.out.kp HR.out.1 (fun c e => by rw [e]; exact HR.out.2)) (fun c e => by rw [e]; have := HR.out.2; omega)
          have r2 := row_kept hKf HR2.out (fun c e => by rw [e]; exact o4)
          refine ⟨⟨NA, nc, VA, vc, ns, rs⟩, ?_, ⟨nrow_of r1 (fun x hx => ?_), rrow_of r2, (own_len r1).2, (own_len r2).2⟩, rfl, rfl, hbf⟩
          · show Ending.returned _ = Ending.returned (Value.agg #[.slice NA ns.length nc, .slice VA rs.length vc])
            rw [← HN.out.1, ← HN.out.2]
          · obtain ⟨i, hi, rfl⟩ := List.mem_iff_getElem.1 hx
            obtain ⟨_, _, _, _, _, h⟩ := HG.out.n i hi
            exact h.up hbf
end Go.Proofs.Ytaminpfgkegibaa
/- The reference's Good, Words, Named; Ints. Conditions: lengths. -/
namespace Go.Proofs.Ytaminpfgkegibaa
set_option linter.unusedVariables false
set_option linter.unusedSimpArgs false
open Go.RowKit
set_option maxHeartbeats 1000000
set_option maxRecDepth 100000
theorem rsz_c (w : World) (A D : Option Addr) (n c m d : Nat) : Calls Try.prog 41 #[.agg #[.slice A n c, .slice D m d]] w (RetP (.int .i64 (sizeH (n : Int) (m : Int) false 0)) w) := by
  have HS := Lib.hid (fun W => rsize_c (n : Int) (m : Int) false 0 W)
  obtain ⟨u, hu⟩ : ∃ u, u = sizeH (n : Int) (m : Int) false 0 := ⟨_, rfl⟩
  rw [← hu] at HS ⊢
  clear hu
  go_enter Try.func41, Try.ntmps41
  go_wp2_with fail
  refine Calls.mono (HS.out _) ?_
  rintro r w2 ⟨rfl, b5⟩
  have b6 : Below w.heap.size w w2 := (Gw.alloc w _).trans (b5.mono (by simp))
  have HB := Lib.hid b6
  clear b5 b6
  go_wp2_with fail
  go_ret
  exact ⟨rfl, HB.out⟩
theorem rwords_c (w : World) (g : Gv) (hg : g.At w w.heap.size) (hs : g.Small) : Calls Try.prog 74 #[g.v] w (RetP (.int .i64 (wordsL g.n)) w) := by
  obtain ⟨R, hR⟩ : ∃ R, R = wordsL g.n := ⟨_, rfl⟩
  rw [← hR]
  have HR := Lib.hid hR
  have HG := Lib.hid hg
  obtain ⟨A, ca, A2, ca2, ns, rs⟩ := g
  obtain ⟨N, hN⟩ : ∃ N, N = ns.length := ⟨_, rfl⟩
  obtain ⟨M, hM⟩ : ∃ M, M = rs.length := ⟨_, rfl⟩
  have HN := Lib.hid hN
  have q0 : (N : Int) ≤ 1000000 := by rw [hN]; exact Int.ofNat_le.2 hs.1
  unfold Gv.v Gv.vn Gv.vr
  simp only
  rw [← hN, ← hM]
  clear hR hg hs hN hM
  go_enter Try.func74, Try.ntmps74
  go_wp2_with fail
  go_loopw [3, 4] (fun t i W => ∃ (k : Nat) (z : Int), i = .int .i64 k ∧ t = .int .i64 z ∧ k ≤ N ∧ Hid (z = wordsL (ns.take k)) ∧ Bk W w.heap.size 52 #[.slice A N ca, .slice A2 M ca2] ∧ Below w.heap.size w W) (fun _ i _ => N - (Go.RowKit.intOf i).toNat)
  case atStart => exact ⟨0, 0, rfl, rfl, Nat.zero_le _, Lib.hid (by simp [wordsL]), Bk.new _ _ _, (by repeat (first | with_reducible assumption | with_reducible exact Below.refl _ _ | with_reducible apply bdN | with_reducible apply Below.drew | with_reducible refine Below.alloc ?_ (by simp) _ | with_reducible refine Below.setCell ?_ (by simp) _))⟩
  case round =>
    obtain ⟨k, z, rfl, rfl, hk, hz, hb1, hB⟩ := hrel
    have c0 := hb1.two.1
    have hsz := hb1.lt
    have HBB := Lib.hid (And.intro hb1 hB)
    by_cases hlt : k < N
    · have hkl : k < ns.length := by rw [← HN.out]; exact hlt
      obtain ⟨x, hx⟩ : ∃ x, x = ns[k] := ⟨_, rfl⟩
      obtain ⟨ad, rfl, hc2, hc3⟩ : ∃ ad, A = some ad ∧ wr.cell? (ad.add (k * 2)) = some x.vp ∧ wr.cell? ⟨(ad.add (k * 2)).block, (ad.add (k * 2)).off + 1, none⟩ = some x.vd := by
        obtain ⟨ad, e, _, h1, h2, h3⟩ := (HG.out.n.below hB) k hkl
        exact ⟨ad, e, by rw [hx]; exact h1, by rw [hx]; exact h2⟩
      have p1 : (0 : Int) ≤ (k : Int) := by omega
      have p2 : (k : Int) < (N : Int) := by omega
      have hz2 : z + szN x = wordsL (ns.take (k + 1)) := by
        rw [take_snoc ns k hkl, wordsL_app, hz.out, hx]
        show _ = _ + (szN _ + 0)
        omega
      have hz3 : 0 ≤ z ∧ z ≤ 300000000 := by
        have := wordsL_le (ns.take k)
        rw [← hz.out, List.length_take] at this
        omega
      have hs3 := szN_le x
      obtain ⟨xA, xc, xD, xd, xps, xbs⟩ := x
      unfold Nv.vp at hc2
      unfold Nv.vd at hc3
      have HSz := Lib.hid (fun W => rsz_c W xA xD xps.length xc xbs.length xd)
      unfold szN at hz2 hs3
      simp only at hc2 hc3 hz2 hs3
      obtain ⟨u, hu⟩ : ∃ u, u = sizeH (xps.length : Int) (xbs.length : Int) false 0 := ⟨_, rfl⟩
      rw [← hu] at HSz hz2 hs3
      obtain ⟨xn, hxn⟩ : ∃ n, n = xps.length := ⟨_, rfl⟩
      obtain ⟨xm, hxm⟩ : ∃ n, n = xbs.length := ⟨_, rfl⟩
      rw [← hxn, ← hxm] at HSz
      rw [← hxn] at hc2
      rw [← hxm] at hc3
      have HZ2 := Lib.hid hz2
      have b1 := hz3.1
      have b2 := hz3.2
      have b3 := hs3.1
      have b4 := hs3.2
      clear hx hb1 hB hkl hz hz2 hz3 hs3 hu hxn hxm
      go_wp2_with fail
      refine Calls.mono (HSz.out _) ?_
      rintro r w2 ⟨rfl, b5⟩
      have b6 : Below wr.heap.size wr w2 := b5
      have HB2 := Lib.hid (And.intro (HBB.out.1.below b6 hsz) (HBB.out.2.trans (b6.mono HBB.out.2.size)))
      clear b5 b6 HSz
      go_wp2_with fail
      go_roundw
      case rel => exact ⟨k + 1, z + u, by go_num, by go_num, by omega, HZ2, HB2.out⟩
      case measure => simp [Go.RowKit.intOf]; omega
    · have hkN : z = R := by rw [HR.out, hz.out, show k = ns.length by rw [← HN.out]; omega, List.take_length]
      have HK := Lib.hid hkN
      clear hkN hb1 hB
      go_wp2_with fail
      go_ret
      rw [HK.out]
      exact ⟨rfl, HBB.out.2⟩
end Go.Proofs.Ytaminpfgkegibaa
/- The reference's Good at any string; Ints at equal rows. No conditions but lengths. -/
namespace Go.Proofs.Ytaminpfgkegibaa
set_option linter.unusedVariables false
set_option linter.unusedSimpArgs false
open Go.RowKit
set_option maxHeartbeats 1000000
set_option maxRecDepth 100000
theorem goodS_no {s : ByteArray} {k : Nat} (h : k < s.size) (e : s[k] = 0) : goodS s = false := by
  unfold goodS
  have hk : s.data.toList[k]? = some 0 := by
    rw [List.getElem?_eq_getElem (by simpa using h)]
    congr 1
  have hn : ¬ Lib.indexByte s.data.toList 0 < 0 := fun hlt => by
    have hge := Lib.indexByte_ge s.data.toList 0
    have : Lib.indexByte s.data.toList 0 = -1 := by omega
    exact Lib.indexByte_none this k hk
  simp [hn]
theorem goodS_yes {s : ByteArray} (h1 : 1 ≤ s.size) (h2 : s.size ≤ 32) (h : ∀ k (hk : k < s.size), s[k] ≠ 0) : goodS s = true := by
  unfold goodS
  have hn : Lib.indexByte s.data.toList 0 < 0 := by
    by_cases hc : Lib.indexByte s.data.toList 0 < 0
    · exact hc
    · exfalso
      obtain ⟨o, ho⟩ : ∃ o : Nat, Lib.indexByte s.data.toList 0 = o := ⟨(Lib.indexByte s.data.toList 0).toNat, by omega⟩
      have := (Lib.indexByte_some ho).1
      obtain ⟨ho2, e⟩ := List.getElem?_eq_some_iff.1 this
      have e2 : s.data[o]'(by simpa using ho2) = 0 := by simpa using e
      exact h o (by simpa using ho2) e2
  simp [h1, h2, hn]
theorem rgood_s (s : ByteArray) (w : World) : Calls Try.prog 73 #[.string s] w fun e w' => e = .returned (.bool (goodS s)) ∧ w' = w := by
  obtain ⟨r, hr⟩ : ∃ r, r = goodS s := ⟨_, rfl⟩
  rw [← hr]
  by_cases h1 : s.size < 1
  · obtain rfl : r = false := by rw [hr]; unfold goodS; rw [decide_eq_false (by omega)]; rfl
    have q1 : s.size = 0 := by omega
    have q2 : decide ((s.size : Int) < 1) = true := by rw [q1]; rfl
    clear hr h1 q1
    go_enter Try.func73, Try.ntmps73
    go_wp2_with fail
    go_ret
    exact ⟨rfl, rfl⟩
  · have q1 : decide ((s.size : Int) < 1) = false := by simp; omega
    by_cases h2 : 32 < s.size
    · obtain rfl : r = false := by rw [hr]; unfold goodS; rw [decide_eq_false (p := s.size ≤ 32) (by omega)]; simp
      have q2 : decide ((32 : Int) < (s.size : Int)) = true := by simp; omega
      clear hr h1 h2
      go_enter Try.func73, Try.ntmps73
      go_wp2_with fail
      go_ret
      exact ⟨rfl, rfl⟩
    · have q2 : decide ((32 : Int) < (s.size : Int)) = false := by simp; omega
      have hb : s.size ≤ 32 := by omega
      have HR := Lib.hid hr
      have H12 := Lib.hid (And.intro h1 h2)
      clear hr h1 h2
      go_enter Try.func73, Try.ntmps73
      go_wp2_with fail
      go_loop [3] (fun i => ∃ k : Nat, k ≤ s.size ∧ i = .int .i64 k ∧ Hid (∀ j (hj : j < s.size), j < k → s[j] ≠ 0)) (fun i => s.size - (Go.RowKit.intOf i).toNat)
      case atStart => exact ⟨0, Nat.zero_le _, rfl, Lib.hid (fun j _ hj => absurd hj (by omega))⟩
      case round =>
        obtain ⟨k, hk, rfl, hall⟩ := hrel
        by_cases hlt : k < s.size
        · have p1 : (0 : Int) ≤ (k : Int) := by omega
          have p2 : (k : Int) < (s.size : Int) := by omega
          by_cases hz0 : s[k] = 0
          · have e0 : ((s[k].toNat : Int) == 0) = true := by rw [hz0]; decide +kernel
            obtain rfl : r = false := by rw [HR.out]; exact goodS_no hlt hz0
            clear hz0
            go_wp2_with fail
            go_ret
            exact ⟨rfl, rfl⟩
          · have e0 : ((s[k].toNat : Int) == 0) = false := by
              have : ¬ s[k].toNat = 0 := fun e => hz0 (UInt8.toNat_inj.1 e)
              simp; omega
            have HZ0 := Lib.hid hz0
            clear hz0
            go_wp2_with fail
            go_round
            case rel => exact ⟨k + 1, by omega, by go_num, Lib.hid (fun j hjs hj => by
              rcases Nat.lt_or_ge j k with h | h
              · exact hall.out j hjs h
              · obtain rfl : j = k := by omega
                exact HZ0.out)⟩
            case measure => simp [Go.RowKit.intOf]; omega
        · obtain rfl : k = s.size := by omega
          obtain rfl : r = true := by
            rw [HR.out]
            have := H12.out
            exact goodS_yes (by omega) hb (fun j hj => hall.out j hj hj)
          go_wp2_with fail
          go_ret
          exact ⟨rfl, rfl⟩
end Go.Proofs.Ytaminpfgkegibaa
