/- space: Alloc, Reset. Conditions: lengths. -/
import Derived.Test.YtaminpfgkegibaaSpC
namespace Go.Proofs.Ytaminpfgkegibaa
set_option linter.unusedVariables false
set_option linter.unusedSimpArgs false
open Go.RowKit
theorem size_right {p b t : Int} (hr : rightH p b false t = true) : ∃ n : Nat, sizeH p b false t = (n : Int) ∧ 1 ≤ n ∧ n ≤ 300 := by
  rcases rightH_out hr with ⟨h1, _⟩ | ⟨_, h2, h3, h4, h5, h6⟩
  · cases h1
  · have e : sizeH p b false t = 1 + p + (b + 7) / 8 := if_pos ⟨hr, rfl⟩
    refine ⟨(1 + p + (b + 7) / 8).toNat, ?_, ?_, ?_⟩
    · rw [e]; omega
    · omega
    · omega
/-- The words with a new object of n words at t. -/
def allocW (ws : List (BitVec 64)) (t n : Nat) (x : BitVec 64) : List (BitVec 64) := zeroW (ws.set t x) (t + 1) (n - 1)
theorem allocW_len (ws : List (BitVec 64)) (t n : Nat) (x : BitVec 64) : (allocW ws t n x).length = ws.length := by unfold allocW; rw [zeroW_len, List.length_set]
set_option maxHeartbeats 400000
set_option maxRecDepth 100000
theorem alloc_bad (w : World) (B s g : Nat) (v : Value) (ws : List (BitVec 64)) (b t e : Nat) (sp : SpAt w B s g v ws b t e) (hp hb : Int) (hm : Bool) (ht : Int) (h : rightH hp hb hm ht = false ∨ (rightH hp hb hm ht = true ∧ hm = true)) :
    Calls Try.prog 90 #[.pointer (some ⟨s, 0, none⟩), .agg #[.int .i64 hp, .int .i64 hb, .bool hm, .int .i64 ht]] w (RetP (.tuple #[.int .i64 0, .int .i64 1]) w) := by
  have HPk := Lib.hid (fun W => pack_c hp hb hm ht W)
  have hk := Bk.new w 111 #[.int .i64 hp, .int .i64 hb, .bool hm, .int .i64 ht]
  have HK := Lib.hid hk
  have hB := Gw.alloc w (.cells #[.int .i64 hp, .int .i64 hb, .bool hm, .int .i64 ht] 111)
  have HB := Lib.hid hB
  rcases h with h | ⟨h, rfl⟩
  · have e1 : errH hp hb hm ht = 1 := by unfold errH; rw [h]; rfl
    rw [e1] at HPk
    clear sp h hk hB e1
    go_enter Try.func90, Try.ntmps90
    go_wp2_with fail
    refine Calls.mono (HPk.out _) ?_
    rintro r w1 ⟨rfl, b1⟩
    have HB1 := Lib.hid (HB.out.trans (b1.mono HB.out.size))
    clear b1
    go_wp2_with fail
    go_ret2
    exact ⟨rfl, HB1.out⟩
  · have e1 : errH hp hb true ht = 0 := by unfold errH; rw [h]; rfl
    rw [e1] at HPk
    clear sp h hk hB e1
    go_enter Try.func90, Try.ntmps90
    go_wp2_with fail
    refine Calls.mono (HPk.out _) ?_
    rintro r w1 ⟨rfl, b1⟩
    have HB1 := Lib.hid (HB.out.trans (b1.mono HB.out.size))
    obtain ⟨k0, k1, k2, k3⟩ := (HK.out.below b1 HK.out.lt).four
    clear b1
    go_wp2_with fail
    go_ret2
    exact ⟨rfl, HB1.out⟩
theorem alloc_full (w : World) (B s g : Nat) (v : Value) (ws : List (BitVec 64)) (b t e : Nat) (sp : SpAt w B s g v ws b t e) (hl : ws.length ≤ 100000) (hp hb ht : Int) (n : Nat) (hr : rightH hp hb false ht = true) (hn : sizeH hp hb false ht = (n : Int)) (hf : e - t < n) :
    Calls Try.prog 90 #[.pointer (some ⟨s, 0, none⟩), .agg #[.int .i64 hp, .int .i64 hb, .bool false, .int .i64 ht]] w (RetP (.tuple #[.int .i64 0, .int .i64 6]) w) := by
  have HPk := Lib.hid (fun W => pack_c hp hb false ht W)
  have HSz := Lib.hid (fun W => size_c hp hb false ht W)
  rw [hn] at HSz
  have hk := Bk.new w 111 #[.int .i64 hp, .int .i64 hb, .bool false, .int .i64 ht]
  have HK := Lib.hid hk
  have hB := Gw.alloc w (.cells #[.int .i64 hp, .int .i64 hb, .bool false, .int .i64 ht] 111)
  have HB := Lib.hid hB
  have e1 : errH hp hb false ht = 0 := by unfold errH; rw [hr]; rfl
  rw [e1] at HPk
  have HFr := Lib.hid (fun W (h : Below w.heap.size w W) => free_c W B s g v ws b t e (sp.below h) hl)
  obtain ⟨room, hroom⟩ : ∃ r, r = e - t := ⟨_, rfl⟩
  rw [← hroom] at HFr
  have u1 : room < n := by omega
  clear sp hr hn hk hB e1 hl hf hroom
  go_enter Try.func90, Try.ntmps90
  go_wp2_with fail
  refine Calls.mono (HPk.out _) ?_
  rintro r w1 ⟨rfl, b1⟩
  have HB1 := Lib.hid (HB.out.trans (b1.mono HB.out.size))
  have hk1 := HK.out.below b1 HK.out.lt
  obtain ⟨k0, k1, k2, k3⟩ := hk1.four
  have HK1 := Lib.hid hk1
  clear b1 hk1
  go_wp2_with fail
  refine Calls.mono (HSz.out _) ?_
  rintro r w2 ⟨rfl, b2⟩
  have HB2 := Lib.hid (HB1.out.trans (b2.mono HB1.out.size))
  clear b2
  go_wp2_with fail
  refine Calls.mono (HFr.out _ HB2.out) ?_
  rintro r w3 ⟨rfl, b3⟩
  have HB3 := Lib.hid (HB2.out.trans (b3.mono HB2.out.size))
  clear b3
  go_wp2_with fail
  go_ret2
  exact ⟨rfl, HB3.out⟩
theorem alloc_ok3 (w : World) (B s g : Nat) (v : Value) (ws : List (BitVec 64)) (b t e : Nat) (sp : SpAt w B s g v ws b t e) (hl : ws.length ≤ 100000) (hp hb ht : Int) (n : Nat) (hr : rightH hp hb false ht = true) (hn : sizeH hp hb false ht = (n : Int)) (hn1 : 1 ≤ n) (hf : n ≤ e - t) :
    Calls Try.prog 90 #[.pointer (some ⟨s, 0, none⟩), .agg #[.int .i64 hp, .int .i64 hb, .bool false, .int .i64 ht]] w fun r w' => r = .returned (.tuple #[.int .i64 t, .int .i64 0]) ∧ SpAt w' B s g v (allocW ws t n (packH hp hb false ht)) b (t + n) e ∧ Below B w w' ∧ Two w w' s v.ownBlock := by
  have HPk := Lib.hid (fun W => pack_c hp hb false ht W)
  have HSz := Lib.hid (fun W => size_c hp hb false ht W)
  rw [hn] at HSz
  have hk := Bk.new w 111 #[.int .i64 hp, .int .i64 hb, .bool false, .int .i64 ht]
  have HK := Lib.hid hk
  have hB := Gw.alloc w (.cells #[.int .i64 hp, .int .i64 hb, .bool false, .int .i64 ht] 111)
  have HB := Lib.hid hB
  have e1 : errH hp hb false ht = 0 := by unfold errH; rw [hr]; rfl
  rw [e1] at HPk
  have HFr := Lib.hid (fun W (h : Below w.heap.size w W) => free_c W B s g v ws b t e (sp.below h) hl)
  obtain ⟨room, hroom⟩ : ∃ r, r = e - t := ⟨_, rfl⟩
  rw [← hroom] at HFr
  have u1 : ¬ room < n := by omega
  obtain ⟨x, hx⟩ : ∃ x, x = packH hp hb false ht := ⟨_, rfl⟩
  rw [← hx] at HPk ⊢
  have hte := sp.te
  have hel := sp.el
  have htl : t < ws.length := by omega
  have HSet := Lib.hid (fun W (h : MemAt W B g v ws) => set_in W B g v ws t x htl hl h)
  have hlen2 : (ws.set t x).length = ws.length := List.length_set
  have HZr := Lib.hid (fun W (h : SpAt W B s g v (ws.set t x) b t e) => zero_c W B s g v (ws.set t x) b t e (t + 1) (t + n) h (by omega) (by rw [hlen2]; omega) (by rw [hlen2]; exact hl))
  obtain ⟨tn, htn⟩ : ∃ tn, tn = t + n := ⟨_, rfl⟩
  have htn1 : tn - (t + 1) = n - 1 := by omega
  have ht1 : ((t + 1 : Nat) : Int) = (t : Int) + 1 := by omega
  rw [← htn, htn1, ht1] at HZr
  rw [← htn]
  have d2 : (t : Int) + (n : Int) = (tn : Int) := by omega
  have d3 : (tn : Int) ≤ 100000 := by omega
  have d4 : (t : Int) ≤ 100000 := by omega
  have d5 : (0 : Int) ≤ (tn : Int) := by omega
  have HX := Lib.hid (And.intro hlen2 (And.intro (show b ≤ tn by have := sp.bt; omega) (show tn ≤ e by omega)))
  have HSP := Lib.hid sp
  clear sp hr hn hk hB e1 hl hf hroom hx hte hel htl hlen2 htn htn1 hn1
  go_enter Try.func90, Try.ntmps90
  go_wp2_with fail
  refine Calls.mono (HPk.out _) ?_
  rintro r w1 ⟨rfl, b1⟩
  have HB1 := Lib.hid (HB.out.trans (b1.mono HB.out.size))
  have hk1 := HK.out.below b1 HK.out.lt
  obtain ⟨k0, k1, k2, k3⟩ := hk1.four
  clear b1 hk1
  go_wp2_with fail
  refine Calls.mono (HSz.out _) ?_
  rintro r w2 ⟨rfl, b2⟩
  have HB2 := Lib.hid (HB1.out.trans (b2.mono HB1.out.size))
  clear b2
  go_wp2_with fail
  refine Calls.mono (HFr.out _ HB2.out) ?_
  rintro r w3 ⟨rfl, b3⟩
  have HB3 := Lib.hid (HB2.out.trans (b3.mono HB2.out.size))
  have hsp3 := HSP.out.below HB3.out
  obtain ⟨c0, c1, c2, c3⟩ := hsp3.four
  have HSP3 := Lib.hid hsp3
  clear b3 hsp3 k0 k1 k2 k3
  go_wp2_with fail
  refine Calls.mono (HSet.out w3 HSP3.out.mem) ?_
  rintro r w4 ⟨rfl, hm4, hg4⟩
  have hsp4 := HSP3.out.memTo hm4 hg4 HX.out.1
  have HB4 : Hid (Below B w w4) := Lib.hid ((HB3.out.mono HSP.out.mem.le).trans (HSP3.out.mem.own hg4))
  have HT4 : Hid (Two w w4 s v.ownBlock) := Lib.hid ((Two.below HB3.out).trans (Two.grown hg4))
  have HSP4 := Lib.hid hsp4
  clear hm4 hg4 hsp4 HSP3
  go_wp2_with fail
  refine Calls.mono (HZr.out w4 HSP4.out) ?_
  rintro r w5 ⟨rfl, hsp5, hg5⟩
  have HB5 : Hid (Below B w w5) := Lib.hid (HB4.out.trans (HSP4.out.mem.own hg5))
  have HT5 : Hid (Two w (w5.setCell ⟨s, 2, none⟩ (.int .i64 tn)) s v.ownBlock) := Lib.hid ((HT4.out.trans (Two.grown hg5)).trans (Two.setc w5 s 2 _ _))
  obtain ⟨c0, c1, c2, c3⟩ := hsp5.four
  have hf2 := hsp5.blk.free 2
  have hsl := hsp5.blk.lt
  have hfin : SpAt (w5.setCell ⟨s, 2, none⟩ (.int .i64 tn)) B s g v (allocW ws t n x) b tn e ∧ Below B w (w5.setCell ⟨s, 2, none⟩ (.int .i64 tn)) := by
    have hgr := grown_set w5 ⟨s, 2, none⟩ (.int .i64 tn)
    refine ⟨⟨hsp5.mem.grown hgr (fun e => hsp5.sg (by injection e with e; exact e.symm)) (.inr hsp5.sv), hsp5.blk.set 2 _, hsp5.sg, hsp5.sv, hsp5.hs, HX.out.2.1, HX.out.2.2, hsp5.el⟩, HB5.out.setCell (p := ⟨s, 2, none⟩) hsp5.hs _⟩
  have HFin := Lib.hid hfin
  clear hfin hsp5 hg5 HSP4
  go_wp2_with fail
  go_ret2
  exact ⟨rfl, HFin.out.1, HFin.out.2, HT5.out⟩
theorem alloc_ok (w : World) (B s g : Nat) (v : Value) (ws : List (BitVec 64)) (b t e : Nat) (sp : SpAt w B s g v ws b t e) (hl : ws.length ≤ 100000) (hp hb ht : Int) (n : Nat) (hr : rightH hp hb false ht = true) (hn : sizeH hp hb false ht = (n : Int)) (hn1 : 1 ≤ n) (hf : n ≤ e - t) :
    Calls Try.prog 90 #[.pointer (some ⟨s, 0, none⟩), .agg #[.int .i64 hp, .int .i64 hb, .bool false, .int .i64 ht]] w fun r w' => r = .returned (.tuple #[.int .i64 t, .int .i64 0]) ∧ SpAt w' B s g v (allocW ws t n (packH hp hb false ht)) b (t + n) e ∧ Below B w w' :=
  (alloc_ok3 w B s g v ws b t e sp hl hp hb ht n hr hn hn1 hf).mono fun _ _ h => ⟨h.1, h.2.1, h.2.2.1⟩
end Go.Proofs.Ytaminpfgkegibaa
