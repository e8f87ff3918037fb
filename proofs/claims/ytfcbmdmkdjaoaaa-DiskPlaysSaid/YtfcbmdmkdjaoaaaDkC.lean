/- bytes.Clone, slices.Clone of bools, disk.New, disk.Of. Conditions: lengths. -/
import Derived.Test.YtfcbmdmkdjaoaaaDkB
namespace Go.Proofs.Ytfcbmdmkdjaoaaa
set_option linter.unusedVariables false
set_option linter.unusedSimpArgs false
open Go.RowKit Go.Maps
theorem ow_addr {α : Type} {f : α → Value} {E : TypeId} {w : World} {base n c : Nat} {A : Option Addr} {xs : List α} (h : Ow f E w base (.slice A n c) xs) : ∀ a, A = some a → base ≤ a.block ∧ a.block < w.heap.size := by
  rintro a rfl
  rcases h.2 with ⟨e, _⟩ | ⟨g, cap, cur, e, hB, hh, _⟩
  · cases e
  · injection e with e1
    injection e1 with e1
    subst e1
    exact ⟨hB, (Array.getElem?_eq_some_iff.1 hh).1⟩
theorem Ow.rd2 {α : Type} {f : α → Value} {E : TypeId} {w : World} {base n c : Nat} {A : Option Addr} {xs : List α} (h : Ow f E w base (.slice A n c) xs) : Rd f w w.heap.size A xs := by
  obtain ⟨A', c', e, _⟩ := h.form
  injection e with e1 e2 e3
  subst e2
  exact h.rd
/-- A new row that the call made. -/
def NewP {α : Type} (f : α → Value) (E : TypeId) (xs : List α) (w : World) (e : Ending) (w' : World) : Prop := ∃ A c, e = .returned (.slice A xs.length c) ∧ xs.length ≤ c ∧ Ow f E w' w.heap.size (.slice A xs.length c) xs ∧ Below w.heap.size w w'
set_option maxHeartbeats 400000
set_option maxRecDepth 100000
theorem clone_c (bs : List (BitVec 8)) (A : Option Addr) (c : Nat) (w : World) (hr : Rd b8 w w.heap.size A bs) (hl : bs.length ≤ 1073741824) : Calls Try.prog 29 #[.slice A bs.length c] w (NewP b8 5 bs w) := by
  have hn := fun (a : Option Addr) (n c : Nat) (W : World) => Lib.run_eql_slice_nil (P := Try.prog) W 34 5 a n c 0 0 (by kernel_rfl)
  rcases A with _ | ad
  · have hb : bs = [] := by
      cases bs with
      | nil => rfl
      | cons x xs => obtain ⟨ad, e, _⟩ := hr 0 (by simp); cases e
    subst hb
    go_enter Try.func29, Try.ntmps29
    go_wp2
    go_ret
    exact ⟨none, 0, rfl, Nat.le_refl _, Ow.nil_ _ _ _ _, (by repeat (first | with_reducible assumption | with_reducible exact Below.refl _ _ | with_reducible apply bdN | with_reducible apply Below.drew | with_reducible refine Below.alloc ?_ (by simp) _ | with_reducible refine Below.setCell ?_ (by simp) _))⟩
  · go_enter Try.func29, Try.ntmps29
    go_wp2_with (at_builtin; refine wp_app one8 b8_one rfl (.tmp 5) (.tmp 6) rfl w.heap.size _ [] rfl (ow_empty b8 5 w w.heap.size (Nat.le_refl _)) (some ad) bs.length c bs rfl rfl w.heap.size (hr.alloc (Nat.le_refl _) _) (by simp; omega) (by decide) (by simp) ?_; intro v4 w4 ho4 hb4 hg4 hv4)
    rw [List.nil_append] at ho4
    obtain ⟨A4, c4, rfl, hc4⟩ := ho4.form
    go_ret
    exact ⟨A4, c4, rfl, hc4, ho4, (Gw.alloc w _).trans hb4⟩
theorem doneB : One Try.prog 31 4 (.bool false) 1 :=
  ⟨by kernel_rfl, by
    have h : (Try.prog.info? 4).map (fun i => (i.zero, i.size, i.bytes)) = some (some (.bool false), 1, 1) := by kernel_rfl
    obtain ⟨i, h1, h2, h3, h4⟩ := info_parts h
    exact ⟨i, h1, h2, h3, h4⟩, rfl⟩
theorem bclone_c (bs : List Bool) (A : Option Addr) (c : Nat) (w : World) (hr : Rd boV w w.heap.size A bs) (hl : bs.length ≤ 1073741824) : Calls Try.prog 33 #[.slice A bs.length c] w (NewP boV 4 bs w) := by
  have hn := fun (a : Option Addr) (n c : Nat) (W : World) => Lib.run_eql_slice_nil (P := Try.prog) W 31 4 a n c 0 0 (by kernel_rfl)
  rcases A with _ | ad
  · have hb : bs = [] := by
      cases bs with
      | nil => rfl
      | cons x xs => obtain ⟨ad, e, _⟩ := hr 0 (by simp); cases e
    subst hb
    go_enter Try.func33, Try.ntmps33
    go_wp2
    go_ret
    exact ⟨none, 0, rfl, Nat.le_refl _, Ow.nil_ _ _ _ _, (by repeat (first | with_reducible assumption | with_reducible exact Below.refl _ _ | with_reducible apply bdN | with_reducible apply Below.drew | with_reducible refine Below.alloc ?_ (by simp) _ | with_reducible refine Below.setCell ?_ (by simp) _))⟩
  · go_enter Try.func33, Try.ntmps33
    go_wp2_with (at_builtin; refine wp_app doneB boV_one rfl (.tmp 5) (.tmp 6) rfl w.heap.size _ [] rfl (ow_empty boV 4 w w.heap.size (Nat.le_refl _)) (some ad) bs.length c bs rfl rfl w.heap.size (hr.alloc (Nat.le_refl _) _) (by simp; omega) (by decide) (by simp) ?_; intro v4 w4 ho4 hb4 hg4 hv4)
    rw [List.nil_append] at ho4
    obtain ⟨A4, c4, rfl, hc4⟩ := ho4.form
    go_ret
    exact ⟨A4, c4, rfl, hc4, ho4, (Gw.alloc w _).trans hb4⟩
def okS (a b : Int) : Bool := decide (1 ≤ a) && (decide (a ≤ 16384) && (decide (64 ≤ b) && decide (b ≤ 1024)))
theorem shaped_c (w : World) (a b : Int) : Calls Try.prog 26 #[.int .i64 a, .int .i64 b] w fun e w' => e = .returned (.bool (okS a b)) ∧ w' = w := by
  unfold okS
  obtain ⟨r1, t1⟩ : ∃ r, decide (1 ≤ a) = r := ⟨_, rfl⟩
  obtain ⟨r2, t2⟩ : ∃ r, decide (a ≤ 16384) = r := ⟨_, rfl⟩
  obtain ⟨r3, t3⟩ : ∃ r, decide (64 ≤ b) = r := ⟨_, rfl⟩
  obtain ⟨r4, t4⟩ : ∃ r, decide (b ≤ 1024) = r := ⟨_, rfl⟩
  rw [t1, t2, t3, t4]
  cases r1 <;> cases r2 <;> cases r3 <;> cases r4
  all_goals
    go_enter Try.func26, Try.ntmps26
    go_wp2_with fail
    go_ret
    exact ⟨rfl, rfl⟩
def dk0 (secs size : Nat) (kept : List (BitVec 8)) : DK := ⟨size, secs, kept, [], false, 0, [], 0⟩
theorem made_c (w : World) (kb kc : Nat) (ks : List (BitVec 8)) (secs size : Nat) (ho : Ow b8 5 w 0 (.slice (some ⟨kb, 0, none⟩) ks.length kc) ks) (h1 : 64 ≤ size ∧ size ≤ 1024) (h2 : 1 ≤ secs ∧ secs ≤ 16384) (h3 : ks.length = secs * size) :
    Calls Try.prog 27 #[.slice (some ⟨kb, 0, none⟩) ks.length kc, .int .i64 size] w fun e w' => e = .returned (.pointer (some ⟨w.heap.size + 1, 0, none⟩)) ∧ DiskAt w' (w.heap.size + 1) ⟨kb, kc, none, 0, w.heap.size, none, 0, fun _ => False⟩ (dk0 secs size ks) ∧ Below w.heap.size w w' := by
  have hkl : kb < w.heap.size := (World.ownsRow.lt ho kb rfl).2
  have HO := Lib.hid (And.intro ho (And.intro h1 (And.intro h2 (And.intro h3 hkl))))
  obtain ⟨n, hn⟩ : ∃ n, n = ks.length := ⟨_, rfl⟩
  rw [← hn]
  have HN := Lib.hid hn
  have hmm := @run_makeMap Try.prog
  clear ho h1 h2 h3 hn hkl
  go_enter Try.func27, Try.ntmps27
  go_wp2_with fail
  go_ret
  obtain ⟨ho, h1, h2, h3, hkl⟩ := HO.out
  refine ⟨by simp, ⟨?_, ?_, ⟨[], rfl, ⟨by simp [dk0], .inl ⟨rfl, rfl⟩⟩, fun q h => by cases h⟩, ?_, Rd.nil, (fun a e => by cases e), (fun k e => e.elim), ?_, ?_, ?_, (fun a e => by cases e), (fun k e => e.elim), h1, h2, h3, (fun p h => by cases h), by simp [dk0]⟩, ((Gw.alloc w _).trans ((Gw.alloc _ _).mono (by simp)))⟩
  · have := Bk.new (w.alloc (.map #[] 0)) 64 #[.int .i64 size, .slice (some ⟨kb, 0, none⟩) n kc, .slice none 0 0, .map (some w.heap.size), .bool false, .int .i64 0, .slice none 0 0, .int .i64 0]
    rw [World.size_alloc] at this
    simp only [dk0]
    rw [← HN.out]
    exact this
  · exact ((ho.alloc _).alloc _)
  · exact (MapFn.made w).kept (Kept.alloc (fun _ => False) _ _) (fun h => h)
  · show kb ≠ w.heap.size + 1; omega
  · show w.heap.size ≠ w.heap.size + 1; omega
  · show w.heap.size ≠ kb; omega
end Go.Proofs.Ytfcbmdmkdjaoaaa
