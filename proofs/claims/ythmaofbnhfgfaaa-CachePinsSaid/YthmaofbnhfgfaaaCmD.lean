/- cache.Cache's Get, Pin, Clean, Len; Put where the key is there. Conditions: lengths. -/
import Derived.Test.YthmaofbnhfgfaaaCmC
namespace Go.Proofs.Ythmaofbnhfgfaaa
set_option linter.unusedVariables false
set_option linter.unusedSimpArgs false
open Go.RowKit Go.Maps
set_option maxRecDepth 100000
set_option maxHeartbeats 4000000
theorem ow_addr {α : Type} {f : α → Value} {E : TypeId} {w : World} {base n c : Nat} {A : Option Addr} {xs : List α} (h : Ow f E w base (.slice A n c) xs) : ∀ a, A = some a → base ≤ a.block ∧ a.block < w.heap.size := by
  rintro a rfl
  rcases h.2 with ⟨e, _⟩ | ⟨g, cap, cur, e, hB, hh, _⟩
  · cases e
  · injection e with e1
    injection e1 with e1
    subst e1
    exact ⟨hB, (Array.getElem?_eq_some_iff.1 hh).1⟩
theorem Ow.rd2 {α : Type} {f : α → Value} {E : TypeId} {w : World} {base n c : Nat} {A : Option Addr} {xs : List α} (h : Ow f E w base (.slice A n c) xs) : Rd f w w.heap.size A xs := by
  obtain ⟨A', c', e, _⟩ := h.form
  injection e with e1 e2 e3
  subst e2
  exact h.rd
/-- bytes.Clone. -/
theorem clone_c (bs : List (BitVec 8)) (A : Option Addr) (n c : Nat) (hn : n = bs.length) (w : World) (hr : Rd b8 w w.heap.size A bs) (hl : n ≤ 1073741824) : Calls Try.prog 16 #[.slice A n c] w fun e w' => ∃ A2 c2, e = .returned (.slice A2 n c2) ∧ Rd b8 w' w'.heap.size A2 bs ∧ (∀ a, A2 = some a → w.heap.size ≤ a.block ∧ a.block < w'.heap.size) ∧ Below w.heap.size w w' := by
  subst hn
  have hn := fun (a : Option Addr) (n c : Nat) (W : World) => Lib.run_eql_slice_nil (P := Try.prog) W 30 5 a n c 0 0 (by kernel_rfl)
  rcases A with _ | ad
  · have hb : bs = [] := by
      cases bs with
      | nil => rfl
      | cons x xs => obtain ⟨ad, e, _⟩ := hr 0 (by simp); cases e
    subst hb
    go_enter Try.func16, Try.ntmps16
    go_wp2
    go_ret
    exact ⟨none, 0, rfl, Rd.nil, fun a e => (by cases e), (by repeat (first | with_reducible assumption | with_reducible exact Below.refl _ _ | with_reducible apply bdN | with_reducible apply Below.drew | with_reducible refine Below.alloc ?_ (by simp) _ | with_reducible refine Below.setCell ?_ (by simp) _))⟩
  · go_enter Try.func16, Try.ntmps16
    go_wp2_with (at_builtin; refine wp_app one8 b8_one rfl (.tmp 5) (.tmp 6) rfl w.heap.size _ [] rfl (ow_empty b8 5 w w.heap.size (Nat.le_refl _)) (some ad) bs.length c bs rfl rfl w.heap.size (hr.alloc (Nat.le_refl _) _) (by simp; omega) (by decide) (by simp) ?_; intro v4 w4 ho4 hb4 hg4 hv4)
    rw [List.nil_append] at ho4
    obtain ⟨A4, c4, rfl, hc4⟩ := ho4.form
    go_ret
    exact ⟨A4, c4, rfl, ho4.rd2, ow_addr ho4, (Gw.alloc w _).trans hb4⟩
section
variable {w : World} {g fb mb N : Nat} {fs : List Fr} {hand : Nat} {tb : Tk}
def Fr.read (f : Fr) : Fr := { f with mrk := true }
theorem get_hit (h : CaAt w g fb mb N fs hand tb none) (k : K2) (hk : kW k) (i : Nat) (hi : i < fs.length) (hf : fs[i].full = true) (hkk : fs[i].k = k) :
    Calls Try.prog 9 #[.pointer (some ⟨g, 0, none⟩), .agg #[.int .i64 k.1, .int .i64 k.2]] w fun e w' => ∃ A c, e = .returned (.tuple #[.slice A fs[i].b.length c, .bool true]) ∧ (Rd b8 w' w'.heap.size A fs[i].b ∧ ∀ a, A = some a → w.heap.size ≤ a.block) ∧ CaAt w' g fb mb N (fs.set i fs[i].read) hand tb none ∧ Kept (Cx g fb mb) w w' := by
  have hv : vOf tb k = some (i : Int) := by have := h.c1 i hi (by simp) hf; rw [hkk] at this; exact this
  obtain ⟨kx, ky⟩ := k
  have hb := Gw.alloc w (.cells #[.int .i64 kx, .int .i64 ky] 29)
  have h1 := h.below hb
  have HA := Lib.hid (at_some h1 (kx, ky) hk i (by rw [h.n]; exact hi) hv)
  have H1 := Lib.hid h1
  have HB := Lib.hid hb
  obtain ⟨f, hfe⟩ : ∃ f, f = fs[i] := ⟨_, rfl⟩
  rw [← hfe]
  obtain ⟨n, hn⟩ : ∃ n, n = f.b.length := ⟨_, rfl⟩
  rw [← hn]
  have HF := Lib.hid (And.intro hfe hn)
  clear h h1 hb hv hf hkk hfe hn
  go_enter Try.func9, Try.ntmps9
  go_wp2_with fail
  refine Calls.mono HA.out ?_
  rintro e w2 ⟨rfl, b2⟩
  have h2 := H1.out.below b2
  have c6 : w2.cell? ⟨fb, i * 7 + 6, none⟩ = some (.bool f.mrk) := by have := (h2.cells hi).2.2.2.2.2.2; rw [← HF.out.1] at this; exact this
  have r6 := h2.fr.free (i * 7 + 6)
  obtain ⟨h3, k3⟩ := h2.st i hi 6 (by decide) (.bool true) f.read (by rw [← HF.out.1]; rfl) (by rw [← HF.out.1]; rfl) (by rw [← HF.out.1]; rfl) (by have := h2.dat hi; rw [← HF.out.1] at this; exact this) (by have := h2.pl _ (List.getElem_mem hi); rw [← HF.out.1] at this; exact this)
  have hi2 : i < (fs.set i f.read).length := by rw [List.length_set]; exact hi
  have hg2 : (fs.set i f.read)[i] = f.read := List.getElem_set_self _
  have c3 : (w2.setCell ⟨fb, i * 7 + 6, none⟩ (.bool true)).cell? ⟨fb, i * 7 + 3, none⟩ = some (.slice f.A n f.c) := by have := (h3.cells hi2).2.2.2.1; rw [hg2] at this; rw [HF.out.2]; exact this
  have hd := h3.dat hi2
  rw [hg2] at hd
  have HC := Lib.hid (clone_c f.b f.A n f.c HF.out.2 _ hd.1 (by have := hd.2.1; have := HF.out.2; show n ≤ _; have e : f.read.b.length = f.b.length := rfl; omega))
  have hbw : Kept (Cx g fb mb) w (w2.setCell ⟨fb, i * 7 + 6, none⟩ (.bool true)) := ((Kept.of_below HB.out _).trans (Kept.of_below b2 _)).trans ((Kept.set _ _ _ _).more (fun k e => .inr (.inl e)))
  have H3 := Lib.hid (And.intro h3 hbw)
  clear h2 h3 k3 hd hbw b2 HA
  go_wp2_with fail
  refine Calls.mono HC.out ?_
  rintro e w4 ⟨A2, c2, rfl, hr2, ha2, hb4⟩
  have HR := Lib.hid (And.intro (And.intro hr2 (show ∀ a, A2 = some a → w.heap.size ≤ a.block from fun a e => by have h1 := (ha2 a e).1; simp only [World.size_setCell] at h1; have h2 := H3.out.2.size; simp only [World.size_setCell] at h2; omega)) (And.intro (H3.out.1.below hb4) (H3.out.2.trans (Kept.of_below hb4 _))))
  clear hr2 ha2 hb4 HC c3 c6 r6
  go_wp2_with fail
  go_ret2
  exact ⟨A2, c2, rfl, HR.out⟩
theorem len_c (h : CaAt w g fb mb N fs hand tb none) : Calls Try.prog 10 #[.pointer (some ⟨g, 0, none⟩)] w fun e w' => e = .returned (.int .i64 tb.length) ∧ w' = w := by
  have c1 := h.three.2.1
  have hl := h.map.len 3
  have hl2 := fun ty => h.map.len ty
  clear h
  go_enter Try.func10, Try.ntmps10
  go_wp2_with fail
  go_ret
  exact ⟨rfl, rfl⟩
def Fr.pin (f : Fr) : Fr := { f with pins := f.pins + 1 }
theorem pin_hit (h : CaAt w g fb mb N fs hand tb none) (k : K2) (hk : kW k) (i : Nat) (hi : i < fs.length) (hf : fs[i].full = true) (hkk : fs[i].k = k) (hp : fs[i].pins < 1000000) :
    Calls Try.prog 11 #[.pointer (some ⟨g, 0, none⟩), .agg #[.int .i64 k.1, .int .i64 k.2]] w fun e w' => e = .returned (.bool true) ∧ CaAt w' g fb mb N (fs.set i fs[i].pin) hand tb none ∧ Kept (Cx g fb mb) w w' := by
  have hv : vOf tb k = some (i : Int) := by have := h.c1 i hi (by simp) hf; rw [hkk] at this; exact this
  obtain ⟨kx, ky⟩ := k
  have hb := Gw.alloc w (.cells #[.int .i64 kx, .int .i64 ky] 29)
  have h1 := h.below hb
  have HA := Lib.hid (at_some h1 (kx, ky) hk i (by rw [h.n]; exact hi) hv)
  have H1 := Lib.hid h1
  have HB := Lib.hid hb
  obtain ⟨f, hfe⟩ : ∃ f, f = fs[i] := ⟨_, rfl⟩
  rw [← hfe] at hp ⊢
  obtain ⟨n, hn⟩ : ∃ n, n = f.pins := ⟨_, rfl⟩
  have HF := Lib.hid (And.intro hfe hn)
  have q1 : (n : Int) < 1000000 := by omega
  have q2 : (0 : Int) ≤ (n : Int) := by omega
  have HP := Lib.hid hp
  clear h h1 hb hv hf hkk hfe hn hp
  go_enter Try.func11, Try.ntmps11
  go_wp2_with fail
  refine Calls.mono HA.out ?_
  rintro e w2 ⟨rfl, b2⟩
  have h2 := H1.out.below b2
  have c5 : w2.cell? ⟨fb, i * 7 + 5, none⟩ = some (.int .i64 n) := by have := (h2.cells hi).2.2.2.2.2.1; rw [← HF.out.1] at this; rw [HF.out.2]; exact this
  have r5 := h2.fr.free (i * 7 + 5)
  obtain ⟨h3, k3⟩ := h2.st i hi 5 (by decide) (.int .i64 (n + 1 : Nat)) f.pin (by rw [← HF.out.1, HF.out.2]; rfl) (by rw [← HF.out.1]; rfl) (by rw [← HF.out.1]; rfl) (by have := h2.dat hi; rw [← HF.out.1] at this; exact this) (by have := HP.out; show f.pins + 1 ≤ _; omega)
  have hbw : Kept (Cx g fb mb) w (w2.setCell ⟨fb, i * 7 + 5, none⟩ (.int .i64 (n + 1 : Nat))) := ((Kept.of_below HB.out _).trans (Kept.of_below b2 _)).trans ((Kept.set _ _ _ _).more (fun k e => .inr (.inl e)))
  have H3 := Lib.hid (And.intro h3 hbw)
  clear h2 h3 k3 hbw b2 HA
  go_wp2_with fail
  go_ret
  exact ⟨rfl, H3.out⟩
def Fr.clean (f : Fr) : Fr := { f with dirty := false }
theorem clean_hit (h : CaAt w g fb mb N fs hand tb none) (k : K2) (hk : kW k) (i : Nat) (hi : i < fs.length) (hf : fs[i].full = true) (hkk : fs[i].k = k) :
    Calls Try.prog 13 #[.pointer (some ⟨g, 0, none⟩), .agg #[.int .i64 k.1, .int .i64 k.2]] w fun e w' => e = .returned (.bool true) ∧ CaAt w' g fb mb N (fs.set i fs[i].clean) hand tb none ∧ Kept (Cx g fb mb) w w' := by
  have hv : vOf tb k = some (i : Int) := by have := h.c1 i hi (by simp) hf; rw [hkk] at this; exact this
  obtain ⟨kx, ky⟩ := k
  have hb := Gw.alloc w (.cells #[.int .i64 kx, .int .i64 ky] 29)
  have h1 := h.below hb
  have HA := Lib.hid (at_some h1 (kx, ky) hk i (by rw [h.n]; exact hi) hv)
  have H1 := Lib.hid h1
  have HB := Lib.hid hb
  obtain ⟨f, hfe⟩ : ∃ f, f = fs[i] := ⟨_, rfl⟩
  rw [← hfe]
  have HF := Lib.hid hfe
  clear h h1 hb hv hf hkk hfe
  go_enter Try.func13, Try.ntmps13
  go_wp2_with fail
  refine Calls.mono HA.out ?_
  rintro e w2 ⟨rfl, b2⟩
  have h2 := H1.out.below b2
  have c4 : w2.cell? ⟨fb, i * 7 + 4, none⟩ = some (.bool f.dirty) := by have := (h2.cells hi).2.2.2.2.1; rw [← HF.out] at this; exact this
  have r4 := h2.fr.free (i * 7 + 4)
  obtain ⟨h3, k3⟩ := h2.st i hi 4 (by decide) (.bool false) f.clean (by rw [← HF.out]; rfl) (by rw [← HF.out]; rfl) (by rw [← HF.out]; rfl) (by have := h2.dat hi; rw [← HF.out] at this; exact this) (by have := h2.pl _ (List.getElem_mem hi); rw [← HF.out] at this; exact this)
  have hbw : Kept (Cx g fb mb) w (w2.setCell ⟨fb, i * 7 + 4, none⟩ (.bool false)) := ((Kept.of_below HB.out _).trans (Kept.of_below b2 _)).trans ((Kept.set _ _ _ _).more (fun k e => .inr (.inl e)))
  have H3 := Lib.hid (And.intro h3 hbw)
  clear h2 h3 k3 hbw b2 HA
  go_wp2_with fail
  go_ret
  exact ⟨rfl, H3.out⟩
end
end Go.Proofs.Ythmaofbnhfgfaaa
