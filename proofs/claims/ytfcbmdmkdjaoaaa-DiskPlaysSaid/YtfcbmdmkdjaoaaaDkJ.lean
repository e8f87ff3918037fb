/- disk.Disk's Sync, Cut, Arm. Conditions: lengths. -/
import Derived.Test.YtfcbmdmkdjaoaaaDkI
namespace Go.Proofs.Ytfcbmdmkdjaoaaa
set_option linter.unusedVariables false
set_option linter.unusedSimpArgs false
open Go.RowKit Go.Maps
set_option maxHeartbeats 400000
set_option maxRecDepth 100000
def DK.settled (d : DK) (fk : Nat → Bool) : DK := { d with kept := layL d.size fk d.pend 0 d.kept, pend := [] }
def DX.noP (x : DX) : DX := { x with pA := none, pc := 0 }
section
variable {w w' : World} {g : Nat} {x : DX} {d : DK}
/-- Only what is written about a disk has turned. -/
theorem DiskAt.flags (h : DiskAt w g x d) (hk : Kept (fun k => k = g) w w') (off : Bool) (armed writes : Nat) (ha : armed ≤ 9223372036854775807) (hw : writes ≤ 1000000)
    (hB : Bk w' g 64 #[.int .i64 d.size, .slice (some ⟨x.kb, 0, none⟩) d.kept.length x.kc, .slice x.pA d.pend.length x.pc, .map (some x.mb), .bool off, .int .i64 armed, .slice x.eA d.keep.length x.ec, .int .i64 writes]) : DiskAt w' g x { d with off := off, armed := armed, writes := writes } :=
  ⟨hB, hk.ow h.kept (fun k e => by obtain ⟨a, e1, rfl⟩ := own_slice e; injection e1 with e1; subst e1; exact h.n1), h.pend.kept hk (fun k e => by obtain ⟨a, e1, rfl⟩ := own_slice e; exact (h.n4 a e1).1) (fun k e => (h.n5 k e).1),
   h.map.kept hk h.n2, hk.rd h.keep (fun a e => (h.n5 _ (h.keepD a e)).1), h.keepD, fun k e => Nat.lt_of_lt_of_le (h.Dlt k e) hk.size, h.n1, h.n2, h.n3, h.n4, h.n5, h.sz, h.sc, h.kl, h.pl, ⟨h.lim.1, hw, ha, h.lim.2.2.2⟩⟩
/-- .. and what the next armed cut keeps. -/
theorem DiskAt.reKeep (h : DiskAt w g x d) (hk : Kept (fun k => k = g) w w') (off : Bool) (armed writes : Nat) (ha : armed ≤ 9223372036854775807) (hw : writes ≤ 1000000) (kp : List Bool) (eA : Option Addr) (ec : Nat) (D : Nat → Prop) (hkr : Rd boV w' w'.heap.size eA kp) (hkl : kp.length ≤ 100000 ∧ kp.length ≤ ec)
    (hD1 : ∀ k, x.D k → D k) (hD2 : ∀ a, eA = some a → D a.block) (hD3 : ∀ k, D k → x.D k ∨ ∃ a, eA = some a ∧ k = a.block) (hD4 : ∀ a, eA = some a → a.block < w'.heap.size ∧ ¬ Md g x a.block)
    (hB : Bk w' g 64 #[.int .i64 d.size, .slice (some ⟨x.kb, 0, none⟩) d.kept.length x.kc, .slice x.pA d.pend.length x.pc, .map (some x.mb), .bool off, .int .i64 armed, .slice eA kp.length ec, .int .i64 writes]) : DiskAt w' g { x with eA := eA, ec := ec, D := D } { d with off := off, armed := armed, writes := writes, keep := kp } := by
  have hn5 : ∀ k, D k → k ≠ g ∧ k ≠ x.kb ∧ k ≠ x.mb ∧ ∀ a, x.pA = some a → k ≠ a.block := fun k hk' => by
    rcases hD3 k hk' with e | ⟨a, e1, rfl⟩
    · exact h.n5 k e
    · have := (hD4 a e1).2
      exact ⟨fun e => this (.inl e), fun e => this (.inr (.inl e)), fun e => this (.inr (.inr (.inl e))), fun b e1 e2 => this (.inr (.inr (.inr ⟨b, e1, e2⟩)))⟩
  obtain ⟨ds, p1, p2, p3⟩ := h.pend.kept hk (fun k e => by obtain ⟨a, e1, rfl⟩ := own_slice e; exact (h.n4 a e1).1) (fun k e => (h.n5 k e).1)
  exact ⟨hB, hk.ow h.kept (fun k e => by obtain ⟨a, e1, rfl⟩ := own_slice e; injection e1 with e1; subst e1; exact h.n1), ⟨ds, p1, p2, fun q hq => ⟨(p3 q hq).1, (p3 q hq).2.1, fun a e => hD1 _ ((p3 q hq).2.2 a e)⟩⟩,
   h.map.kept hk h.n2, hkr, hD2, fun k e => by
     rcases hD3 k e with e | ⟨a, e1, rfl⟩
     · exact Nat.lt_of_lt_of_le (h.Dlt k e) hk.size
     · exact (hD4 a e1).1, h.n1, h.n2, h.n3, h.n4, hn5, h.sz, h.sc, h.kl, h.pl, ⟨h.lim.1, hw, ha, hkl⟩⟩
theorem dsync_off (h : DiskAt w g x d) (ho : d.off = true) : Calls Try.prog 14 #[.pointer (some ⟨g, 0, none⟩)] w fun e w' => e = .returned (.int .i64 7) ∧ w' = w := by
  have c4 := h.blk.eight.2.2.2.2.1
  rw [ho] at c4
  clear h ho
  go_enter Try.func14, Try.ntmps14
  go_wp2
  go_ret
  exact ⟨rfl, rfl⟩
theorem dsync_ok (h : DiskAt w g x d) (ho : d.off = false) : Calls Try.prog 14 #[.pointer (some ⟨g, 0, none⟩)] w fun e w' => e = .returned (.int .i64 0) ∧ DiskAt w' g x.noP (d.settled (fun _ => true)) ∧ Kept (Md g x) w w' := by
  have c4 := h.blk.eight.2.2.2.2.1
  rw [ho] at c4
  have HS := Lib.hid (dsettle_all h)
  clear h ho
  go_enter Try.func14, Try.ntmps14
  go_wp2_with fail
  refine Calls.mono HS.out ?_
  rintro e w1 ⟨rfl, h1, k1⟩
  have H1 := Lib.hid (And.intro h1 k1)
  clear h1 k1 c4
  go_wp2_with fail
  go_ret
  exact ⟨rfl, H1.out.1, H1.out.2⟩
/-- A disk whose power is cut: of the pending writes those of kp are kept. -/
def DK.cut (d : DK) (kp : List Bool) : DK := { d with kept := layL d.size (fun i => kp.getD i false) d.pend 0 d.kept, pend := [], off := true, armed := 0, keep := [] }
def DX.cut (x : DX) : DX := { x with pA := none, pc := 0, eA := none, ec := 0 }
theorem dcut_e (h : DiskAt w g x d) (kA : Option Addr) (kp : List Bool) (kc : Nat) (hkr : Rd boV w w.heap.size kA kp) (hkm : ∀ a, kA = some a → kp ≠ [] → ¬ Md g x a.block) (hkl : kp.length ≤ 100000) :
    Calls Try.prog 17 #[.pointer (some ⟨g, 0, none⟩), .slice kA kp.length kc] w fun e w' => e = .returned (.tuple #[]) ∧ DiskAt w' g x.cut (d.cut kp) ∧ Kept (Md g x) w w' := by
  obtain ⟨n, hn⟩ : ∃ n, n = kp.length := ⟨_, rfl⟩
  rw [← hn] at hkl ⊢
  have hb := Gw.alloc w (.cells #[.slice kA n kc] 31)
  have hcm : ¬ Md g x w.heap.size := fun e => by have := h.lts _ (.inl e); omega
  have hS := dsettle_cut (h.below hb) w.heap.size kA kp n kc hn ((Bk.new w 31 #[.slice kA n kc]).cell 0) (by simp) hcm ((hkr.alloc (Nat.le_refl _) _).more (by simp)) hkm hkl
  have HS := Lib.hid hS
  clear hS hkr hkm hkl hn hb hcm h
  go_enter Try.func17, Try.ntmps17
  go_wp2_with fail
  refine Calls.mono HS.out ?_
  rintro e w1 ⟨rfl, h1, k1⟩
  obtain ⟨_, _, _, _, c4, c5, c6, _⟩ := h1.blk.eight
  have f4 := h1.blk.free 4
  have f5 := h1.blk.free 5
  have f6 := h1.blk.free 6
  have hb1 := h1.blk.set 4 (.bool true)
  have hb2 := hb1.set 5 (.int .i64 0)
  have hb3 := hb2.set 6 (.slice none 0 0)
  have g5 : (w1.setCell ⟨g, 4, none⟩ (.bool true)).cell? ⟨g, 5, none⟩ = some (.int .i64 d.armed) := hb1.cell 5
  have g6 : ((w1.setCell ⟨g, 4, none⟩ (.bool true)).setCell ⟨g, 5, none⟩ (.int .i64 0)).cell? ⟨g, 6, none⟩ = some (.slice x.eA d.keep.length x.ec) := hb2.cell 6
  have e5 := hb1.free 5
  have e6 := hb2.free 6
  have hk := ((Kept.set w1 g 4 (.bool true)).trans (Kept.set _ g 5 (.int .i64 0))).trans (Kept.set _ g 6 (.slice none 0 0))
  have H1 := Lib.hid (And.intro h1 (And.intro k1 (And.intro hk hb3)))
  clear h1 k1 hk hb1 hb2 hb3
  go_wp2_with fail
  go_end0
  refine ⟨rfl, ?_, (Kept.alloc (Md g x) w _).trans (H1.out.2.1.trans (H1.out.2.2.1.more (fun k e => .inl e)))⟩
  exact H1.out.1.reKeep H1.out.2.2.1 true 0 d.writes (by omega) H1.out.1.lim.2.1 [] none 0 x.D Rd.nil (by simp) (fun k e => e) (fun a e => by cases e) (fun k e => .inl e) (fun a e => by cases e) H1.out.2.2.2
theorem dcut_c (h : DiskAt w g x d) (kA : Option Addr) (kp : List Bool) (kc : Nat) (hkr : Rd boV w w.heap.size kA kp) (hkm : ∀ a, kA = some a → ¬ Md g x a.block) (hkl : kp.length ≤ 100000) :
    Calls Try.prog 17 #[.pointer (some ⟨g, 0, none⟩), .slice kA kp.length kc] w fun e w' => e = .returned (.tuple #[]) ∧ DiskAt w' g x.cut (d.cut kp) ∧ Kept (Md g x) w w' :=
  dcut_e h kA kp kc hkr (fun a e _ => hkm a e) hkl
theorem max_run (n m : Int) (h : m = max n 1) (W : World) (ty : TypeId) : (Builtin.max_ #[3, 3] 3 #[.int .i64 n, .int .i64 1]).run Try.prog W = .ok (.int .i64 m) W := by
  unfold Builtin.max_
  by_cases h2 : n ≤ 1
  · have h3 : m = 1 := by omega
    clear h
    subst h3
    by_cases h5 : n = 1
    · subst h5
      go_simp
      simp [Builtin.max2]
    · have h4 : n < 1 := by omega
      go_simp
      simp [Builtin.max2, h4]
  · have h3 : m = n := by omega
    clear h
    subst h3
    have h4 : ¬ m < 1 := by omega
    go_simp
    simp [Builtin.max2, h4]
/-- A disk whose power goes at the m-th write. -/
def DK.arm (d : DK) (m : Nat) (kp : List Bool) : DK := { d with armed := m, keep := kp }
theorem darm_e (h : DiskAt w g x d) (n : Int) (hn : n ≤ 9223372036854775807) (kA : Option Addr) (kp : List Bool) (kc : Nat) (hkr : Rd boV w w.heap.size kA kp) (hkm : ∀ a, kA = some a → kp ≠ [] → ¬ Md g x a.block) (hkl : kp.length ≤ 100000) :
    Calls Try.prog 16 #[.pointer (some ⟨g, 0, none⟩), .int .i64 n, .slice kA kp.length kc] w fun e w' => e = .returned (.tuple #[]) ∧ ∃ x', DiskAt w' g x' (d.arm (max n 1).toNat kp) ∧ NextX g w x x' ∧ Kept (Md g x) w w' := by
  obtain ⟨m, hm⟩ : ∃ m : Nat, m = (max n 1).toNat := ⟨_, rfl⟩
  have hmi : (m : Int) = max n 1 := by omega
  rw [← hm]
  have hmax := fun (W : World) => max_run n (m : Int) hmi W 0
  have hm2 : m ≤ 9223372036854775807 := by omega
  obtain ⟨_, _, _, _, _, c5, _, _⟩ := h.blk.eight
  have f5 := h.blk.free 5
  have hk1 := Kept.set w g 5 (.int .i64 (m : Int))
  have h1 := h.flags hk1 d.off m d.writes hm2 h.lim.2.1 (h.blk.set 5 _)
  have hC := bclone_c kp kA kc _ (hk1.rde hkr (fun a e e1 e2 => hkm a e e1 (.inl e2))) (by omega)
  have HC := Lib.hid hC
  have H1 := Lib.hid (And.intro h (And.intro h1 (And.intro hk1 hkl)))
  unfold NewP at HC
  obtain ⟨kn, hkn⟩ : ∃ kn, kn = kp.length := ⟨_, rfl⟩
  rw [← hkn] at HC ⊢
  have HN := Lib.hid hkn
  clear h hk1 h1 hC hkr hkm hkl hm hmi hm2 hn hkn
  go_enter Try.func16, Try.ntmps16
  go_wp2_with fail
  refine Calls.mono HC.out ?_
  rintro e w2 ⟨A, c, rfl, hc, ho, hb⟩
  have h2 := H1.out.2.1.below hb
  obtain ⟨_, _, _, _, _, _, c6, _⟩ := h2.blk.eight
  have f6 := h2.blk.free 6
  have hb6 := h2.blk.set 6 (.slice A kn c)
  have hk6 := Kept.set w2 g 6 (.slice A kn c)
  have H2 := Lib.hid (And.intro h2 (And.intro hb6 (And.intro hk6 (And.intro hb (And.intro ho hc)))))
  clear h2 hb6 hk6 hb ho hc c5 f5 hmax
  go_wp2_with fail
  go_end0
  obtain ⟨h2, hb6, hk6, hb, ho, hc⟩ := H2.out
  obtain ⟨h0, h1, hk1, hkl⟩ := H1.out
  have hsz : w.heap.size ≤ w2.heap.size := Nat.le_trans hk1.size hb.size
  have hge : ∀ a, A = some a → w.heap.size ≤ a.block ∧ a.block < w2.heap.size := fun a e => by
    have := ow_addr ho a e
    have := hk1.size
    omega
  rw [HN.out] at ho hc
  refine ⟨rfl, { x with eA := A, ec := c, D := fun k => x.D k ∨ ∃ a, A = some a ∧ k = a.block }, h2.reKeep hk6 d.off m d.writes h2.lim.2.2.1 h2.lim.2.1 kp A c (fun k => x.D k ∨ ∃ a, A = some a ∧ k = a.block) (hk6.rd ho.rd (fun a e e2 => by have := hge a e; have := h0.blk.lt; omega)) ⟨hkl, hc⟩ (fun k e => .inl e) (fun a e => .inr ⟨a, e, rfl⟩) (fun k e => e)
    (fun a e => ⟨by have := hge a e; have := hk6.size; omega, fun e2 => by have := h0.lts _ (.inl e2); have := hge a e; omega⟩) (by rw [← HN.out]; exact hb6), fun k e => ?_, hk1.more (fun k e => .inl e) |>.trans ((Kept.of_below hb _).trans (hk6.more (fun k e => .inl e)))⟩
  rcases e with e | e | ⟨a, e1, rfl⟩
  · exact .inl (.inl e)
  · exact .inl (.inr e)
  · exact .inr (hge a e1).1
theorem darm_c (h : DiskAt w g x d) (n : Int) (hn : n ≤ 9223372036854775807) (kA : Option Addr) (kp : List Bool) (kc : Nat) (hkr : Rd boV w w.heap.size kA kp) (hkm : ∀ a, kA = some a → ¬ Md g x a.block) (hkl : kp.length ≤ 100000) :
    Calls Try.prog 16 #[.pointer (some ⟨g, 0, none⟩), .int .i64 n, .slice kA kp.length kc] w fun e w' => e = .returned (.tuple #[]) ∧ ∃ x', DiskAt w' g x' (d.arm (max n 1).toNat kp) ∧ NextX g w x x' ∧ Kept (Md g x) w w' :=
  darm_e h n hn kA kp kc hkr (fun a e _ => hkm a e) hkl
end
end Go.Proofs.Ytfcbmdmkdjaoaaa
