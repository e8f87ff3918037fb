/- What rec.All answers of records one behind the other. Conditions: lengths. -/
import Derived.Test.YtoigahkgdanjnaaRecL
import Derived.LoopTactic
namespace Go.Proofs.Ytoigahkgdanjnaa
set_option linter.unusedVariables false
set_option linter.unusedSimpArgs false
open Go.RowKit
set_option maxRecDepth 100000
set_option maxHeartbeats 800000
theorem encRL_pos (k : Nat) (tx : BitVec 64) (sp no : Nat) (d : List (BitVec 8)) : 0 < (encRL k tx sp no d).length := by
  have := sealC_len (bodyL k tx sp no d)
  unfold encRL rawL
  rw [List.length_append]
  omega
theorem encs_drop (L : List Rn) (j : Nat) (h : j < L.length) : encs (L.drop j) = (L[j]).enc ++ encs (L.drop (j + 1)) := by
  unfold encs
  rw [List.drop_eq_getElem_cons h, List.flatMap_cons]
def lenV : Value → Nat
  | .slice _ n _ => n
  | _ => 0
theorem infoR : ∃ i : TypeInfo, Try.prog.info? 27 = some i ∧ i.zero = some (.agg #[.int .i64 0, .int .u64 0, .int .i64 0, .int .i64 0, .slice none 0 0]) ∧ i.size = 5 ∧ i.bytes = 56 := by
  refine ⟨_, rfl, ?_, ?_, ?_⟩ <;> kernel_rfl
def AllP (L : List Rn) (w : World) (e : Ending) (w' : World) : Prop := ∃ A c, e = .returned (.tuple #[.slice A L.length c, .int .i64 0]) ∧ RowN w' w'.heap.size A L ∧ Below w.heap.size w w'
theorem encs_le (L : List Rn) (j : Nat) : (encs (L.drop j)).length ≤ (encs L).length := by
  have h : encs L = encs (L.take j) ++ encs (L.drop j) := by
    unfold encs
    rw [← List.flatMap_append, List.take_append_drop]
  rw [h, List.length_append]
  omega
theorem RRow.snoc2 {W w' : World} {base : Nat} {v v' : Value} {L : List Rn} {x : Rn} {p : Option Addr × Nat} {ds : List (Option Addr × Nat)} (h1 : ds.length = L.length)
    (h3 : ∀ q ∈ L.zip ds, Rd b8 W W.heap.size q.2.1 q.1.d ∧ (0 < q.1.d.length → ∀ a, q.2.1 = some a → v.ownBlock ≠ some a.block)) (hx : Rd b8 W W.heap.size p.1 x.d) (hxn : 0 < x.d.length → ∀ a, p.1 = some a → v.ownBlock ≠ some a.block)
    (ho : w'.ownsRow base 27 5 v' (L.length + 1) (((L.zip ds).flatMap fun p => p.1.cells p.2) ++ x.cells p))
    (hg : W.grownBy w' v.ownBlock) (hv : v'.ownBlock = v.ownBlock ∨ v'.ownBlock = some W.heap.size) : RRow w' base v' (L ++ [x]) := by
  have hz : (L ++ [x]).zip (ds ++ [p]) = L.zip ds ++ [(x, p)] := by rw [List.zip_append h1.symm]; rfl
  refine ⟨ds ++ [p], by simp [h1], ?_, ?_⟩
  · rw [hz, List.flatMap_append, List.length_append]
    simpa using ho
  · rw [hz]
    intro q hq
    have key : Rd b8 W W.heap.size q.2.1 q.1.d ∧ (0 < q.1.d.length → ∀ a, q.2.1 = some a → v.ownBlock ≠ some a.block) := by
      rcases List.mem_append.1 hq with h | h
      · exact h3 q h
      · have : q = (x, p) := by simpa using h
        subst this
        exact ⟨hx, hxn⟩
    refine ⟨key.1.grown hg key.2, fun hp a e => ?_⟩
    rcases hv with e2 | e2
    · rw [e2]; exact key.2 hp a e
    · rw [e2]
      obtain ⟨ad, e3, hb, _⟩ := key.1 0 hp
      rw [e] at e3
      injection e3 with e3
      subst e3
      intro e4
      injection e4 with e4
      omega
theorem new_news (W : World) (E : TypeId) (cs : List Value) (g : Nat) (hg : g = W.heap.size) : ∀ j u, cs[j]? = some u → (W.alloc (.cells cs.toArray E)).cell? ((⟨g, 0, none⟩ : Addr).add j) = some u := by
  subst hg
  intro j u h
  have e2 : ((⟨W.heap.size, 0, none⟩ : Addr).add j) = ⟨W.heap.size, j, none⟩ := by unfold Addr.add; by_cases k : j = 0 <;> simp [k]
  rw [e2, (Bk.new W E cs.toArray).cell j]
  simpa using h
theorem RRow.form {W : World} {base : Nat} {v : Value} {L : List Rn} (h : RRow W base v L) : ∃ A c, v = .slice A L.length c := by
  obtain ⟨ds, h1, h2, _⟩ := h
  rcases h2.2 with ⟨e, hn⟩ | ⟨g, cap, cur, e, _⟩
  · exact ⟨none, 0, by rw [e, hn]⟩
  · exact ⟨_, _, e⟩
theorem RRow.ge {W : World} {base : Nat} {v : Value} {L : List Rn} (h : RRow W base v L) : ∀ k, v.ownBlock = some k → base ≤ k ∧ k < W.heap.size := by
  obtain ⟨ds, h1, h2, _⟩ := h
  exact World.ownsRow.lt h2
/-- The value that is read, and the row beside it. -/
def AllR (w : World) (L : List Rn) (b v : Value) (wr : World) : Prop := ∃ (j : Nat) (A : Option Addr) (n c : Nat) (u : Value), b = .slice A n c ∧ u = v ∧ Hid (j ≤ L.length) ∧ Hid (n = (encs (L.drop j)).length) ∧ Hid (n ≤ c) ∧ Hid (Rd b8 wr w.heap.size A (encs (L.drop j))) ∧ Hid (RRow wr w.heap.size v (L.take j)) ∧ Hid (Below w.heap.size w wr)
theorem all_c (L : List Rn) (A : Option Addr) (c : Nat) (w : World) (hok : ∀ x ∈ L, x.ok) (hL : L.length ≤ 1000) (hlen : (encs L).length ≤ 100000000) (hc : (encs L).length ≤ c) (hr : Rd b8 w w.heap.size A (encs L)) :
    Calls Try.prog 14 #[.slice A (encs L).length c] w (AllP L w) := by
  have HOK := Lib.hid hok
  have HLEN := Lib.hid hlen
  have HLL := Lib.hid hL
  obtain ⟨n0, hn0⟩ : ∃ n, n = (encs L).length := ⟨_, rfl⟩
  have HN0 := Lib.hid hn0
  have HC := Lib.hid hc
  have HR := Lib.hid hr
  rw [← hn0]
  clear hok hL hlen hc hr hn0
  go_enter Try.func14, Try.ntmps14
  go_wp2_with fail
  go_loopw [0, 4] (fun b v wr => AllR w L b v wr) (fun b _ _ => lenV b)
  case atStart => exact ⟨0, A, n0, c, _, rfl, rfl, Lib.hid (Nat.zero_le _), HN0, Lib.hid (by have := HC.out; have := HN0.out; omega), HR, Lib.hid (RRow.nil _ _), Lib.hid (Below.refl _ _)⟩
  case round =>
    obtain ⟨j, A0, n, c0, v4, rfl, rfl, hj, hn, hcc, hR, hRow, hB⟩ := hrel
    rcases (show j < L.length ∨ j = L.length from by have := hj.out; omega) with hlt | heq
    · obtain ⟨x, hx⟩ : ∃ x, x = L[j] := ⟨_, rfl⟩
      have hE := encs_drop L j hlt
      rw [← hx] at hE
      obtain ⟨hbad, hd⟩ := HOK.out x (by rw [hx]; exact List.getElem_mem _)
      have hrl := Nat.le_trans (encs_le L (j + 1)) HLEN.out
      have htk : L.take (j + 1) = L.take j ++ [x] := by rw [List.take_succ_eq_append_getElem hlt, hx]
      obtain ⟨el, hel⟩ : ∃ el, el = x.enc.length := ⟨_, rfl⟩
      have hep : 0 < el := by rw [hel]; exact encRL_pos _ _ _ _ _
      obtain ⟨k, tx, sp, no, d⟩ := x
      obtain ⟨Rs, hRs⟩ : ∃ Rs, Rs = encs (L.drop (j + 1)) := ⟨_, rfl⟩
      rw [← hRs] at hE hrl
      have hnl : n = el + Rs.length := by rw [hn.out, hE, List.length_append, ← hel]
      have HRs := Lib.hid hRs
      have HD := Lib.hid (show Calls Try.prog 11 #[.slice A0 n c0] wr (DecodeP k tx sp no d wr) from by
        have h := decode_ok k tx sp no A0 d Rs c0 wr hbad hd hrl (by
          have := hcc.out
          rw [hnl] at this
          rw [List.length_append]
          exact Nat.le_trans (Nat.le_of_eq (by rw [hel]; rfl)) this) (by
          have h2 := hR.out
          rw [hE] at h2
          exact h2.more hB.out.size)
        have e : (encRL k tx sp no d ++ Rs).length = n := by rw [List.length_append, hnl, hel]; rfl
        rw [e] at h
        exact h)
      have hRd := Lib.hid (show Rd b8 wr w.heap.size A0 (encRL k tx sp no d ++ Rs) from by rw [← show Rn.enc ⟨k, tx, sp, no, d⟩ = encRL k tx sp no d from rfl, ← hE]; exact hR.out)
      have HEl := Lib.hid (show (encRL k tx sp no d).length = el from hel.symm)
      have HNL := Lib.hid hnl
      have HTK := Lib.hid htk
      have p1 : (0 : Int) < (n : Int) := by omega
      have p2 : (0 : Int) ≤ (el : Int) := by omega
      have p3 : (el : Int) ≤ (n : Int) := by omega
      have p4 : (n : Int) ≤ (c0 : Int) := by have := hcc.out; omega
      have p5 : (n : Int) ≤ 200000000 := by have := encs_le L j; have := HLEN.out; have := hn.out; omega
      have HJ := Lib.hid hlt
      clear hx hE hbad hd hrl htk hel hRs hnl hR hj hn
      go_wp2_with fail
      refine Calls.mono HD.out ?_
      rintro e w2 ⟨A2, c2, rfl, hr2, b2, ha2⟩
      rw [HEl.out]
      obtain ⟨dl, hdl⟩ : ∃ dl, dl = d.length := ⟨_, rfl⟩
      rw [← hdl]
      have HDL := Lib.hid hdl
      unfold recV
      have hRowA := (hRow.out.below b2).below (Gw.alloc w2 (.cells #[.int .i64 (k : Int), .int .u64 (U64 tx), .int .i64 (sp : Int), .int .i64 (no : Int), .slice A2 dl c2] 27))
      have hRowB := hRowA.below (Gw.alloc (w2.alloc (.cells #[.int .i64 (k : Int), .int .u64 (U64 tx), .int .i64 (sp : Int), .int .i64 (no : Int), .slice A2 dl c2] 27)) (.cells #[.int .i64 (k : Int), .int .u64 (U64 tx), .int .i64 (sp : Int), .int .i64 (no : Int), .slice A2 dl c2] 27))
      obtain ⟨ds, h1, h2, h3⟩ := hRowB
      have HGE := Lib.hid (hRow.out.ge)
      have HB2 := Lib.hid ((hB.out.trans (b2.mono hB.out.size)).trans ((Gw.alloc w2 (.cells #[.int .i64 (k : Int), .int .u64 (U64 tx), .int .i64 (sp : Int), .int .i64 (no : Int), .slice A2 dl c2] 27)).mono (Nat.le_trans hB.out.size b2.size)))
      have HRA := Lib.hid ((hr2.alloc (Nat.le_refl _) (.cells #[.int .i64 (k : Int), .int .u64 (U64 tx), .int .i64 (sp : Int), .int .i64 (no : Int), .slice A2 dl c2] 27)).more (B' := w2.heap.size + 1) (by omega))
      have HNA := Lib.hid (show ∀ a, A2 = some a → v4.ownBlock ≠ some a.block from fun a e h => by have := (HGE.out _ h).2; have := ha2 a e; omega)
      obtain ⟨i0, hi0, hz0, hs0, hb0⟩ := infoR
      have HI := Lib.hid (And.intro hi0 (And.intro hz0 (And.intro hs0 hb0)))
      have H12 := Lib.hid (And.intro h1 (And.intro h2 h3))
      have HTL := Lib.hid (show (L.take j).length ≤ 1000 from by rw [List.length_take]; have := HLL.out; omega)
      have HRdA := Lib.hid (((hRd.out.below (b2.mono hB.out.size)).alloc (Nat.le_trans hB.out.size b2.size) (.cells #[.int .i64 (k : Int), .int .u64 (U64 tx), .int .i64 (sp : Int), .int .i64 (no : Int), .slice A2 dl c2] 27)).alloc (by have := Nat.le_trans hB.out.size b2.size; simp; omega) (.cells #[.int .i64 (k : Int), .int .u64 (U64 tx), .int .i64 (sp : Int), .int .i64 (no : Int), .slice A2 dl c2] 27))
      have HXA := Lib.hid (HRA.out.alloc (by simp) (.cells #[.int .i64 (k : Int), .int .u64 (U64 tx), .int .i64 (sp : Int), .int .i64 (no : Int), .slice A2 dl c2] 27))
      clear h1 h2 h3 hr2 b2 ha2 hdl HD hRow hB hRowA HRA hi0 hz0 hs0 hb0
      go_wp2_with (at_builtin; refine wp_appS 5 i0 Try.underlying43 HI.out.1 HI.out.2.1 HI.out.2.2.1 HI.out.2.2.2 rfl (by decide) rfl (.tmp 20) (.tmp 22) rfl w.heap.size v4 (L.take j).length _ rfl H12.out.2.1 ⟨w2.heap.size + 1, 0, none⟩ 1 1 [.int .i64 (k : Int), .int .u64 (U64 tx), .int .i64 (sp : Int), .int .i64 (no : Int), .slice A2 dl c2] rfl rfl (new_news _ _ _ _ (by simp)) (by intro u hu; simp only [List.mem_cons, List.not_mem_nil, or_false] at hu; rcases hu with rfl | rfl | rfl | rfl | rfl <;> rfl) (by have := HTL.out; simp only [maxLen]; omega) (by have := HTL.out; omega) (by have := HB2.out.size; simp at this; simp; omega) ?_; intro v5 w5 ho5 hb5 hg5 hv5; have HO5 := Lib.hid ho5; have HB5 := Lib.hid hb5; have HG5 := Lib.hid hg5; have HV5 := Lib.hid hv5; clear ho5 hb5 hg5 hv5)
      refine ⟨⟨j + 1, _, _, _, _, rfl, rfl, Lib.hid HJ.out, Lib.hid ?_, Lib.hid ?_, Lib.hid ?_, Lib.hid ?_, Lib.hid ?_⟩, ?_⟩
      · rw [← HRs.out]; have := HNL.out; omega
      · have := hcc.out; omega
      · have h1 := (HRdA.out.below HB5.out).drop (k := el) (cap := c0) (by rw [List.length_append, HEl.out]; have := HNL.out; have := hcc.out; omega)
        have e : (encRL k tx sp no d ++ Rs).drop el = Rs := List.drop_left' HEl.out
        rw [e] at h1
        rw [← HRs.out]
        exact h1
      · rw [HTK.out]
        refine RRow.snoc2 (p := (A2, c2)) H12.out.1 H12.out.2.2 (HXA.out.more (by simp)) (fun _ => HNA.out) ?_ HG5.out HV5.out
        have h2 := HO5.out
        rw [HDL.out] at h2
        exact h2
      · exact (HB2.out.trans ((Gw.alloc _ _).mono HB2.out.size)).trans HB5.out
      · show n - el < n
        omega
    · subst heq
      have hn0 : n = 0 := by rw [hn.out, List.drop_length]; rfl
      have hRow' : RRow wr w.heap.size v4 L := by have := hRow.out; rwa [List.take_length] at this
      obtain ⟨A9, c9, rfl⟩ := hRow'.form
      have HF := Lib.hid (show AllP L w (.returned (.tuple #[.slice A9 L.length c9, .int .i64 0])) wr from ⟨A9, c9, rfl, hRow'.rows.1, hB.out⟩)
      obtain ⟨m9, hm9⟩ : ∃ m, m = L.length := ⟨_, rfl⟩
      rw [← hm9] at HF ⊢
      clear hRow' hRow hn hR hm9
      subst hn0
      go_wp2_with fail
      go_ret2
      exact HF.out
end Go.Proofs.Ytoigahkgdanjnaa
