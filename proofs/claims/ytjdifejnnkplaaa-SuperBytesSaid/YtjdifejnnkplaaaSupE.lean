/- What the closures of sup.Decode answer. Conditions: lengths. -/
import Derived.Test.YtjdifejnnkplaaaSupD
namespace Go.Proofs.Ytjdifejnnkplaaa
set_option linter.unusedVariables false
set_option linter.unusedSimpArgs false
open Go.RowKit
set_option maxRecDepth 100000
set_option maxHeartbeats 400000
/-- A call that answers v, leaves the place x in block pa, and all else. -/
def NextP (v : Value) (pa : Nat) (x : Int) (w : World) (e : Ending) (w' : World) : Prop := e = .returned v ∧ Bk w' pa 3 #[.int .i64 x] ∧ Only w w' pa
theorem next_c (bs : List (BitVec 8)) (A : Option Addr) (c ps pa : Nat) (at_ k : Int) (w : World) (hs : Bk w ps 29 #[.slice A bs.length c]) (ha : Bk w pa 3 #[.int .i64 at_]) (hr : Rd b8 w w.heap.size A bs) (hl : bs.length ≤ 2147483648) (h1 : 0 ≤ at_) (h2 : at_ ≤ 100000) (h3 : 0 ≤ k) (h4 : k ≤ 8) :
    Calls Try.prog 24 #[.int .i64 k, .pointer (some ⟨ps, 0, none⟩), .pointer (some ⟨pa, 0, none⟩)] w (NextP (.int .u64 (U64 (getB bs at_ k))) pa (at_ + k) w) := by
  have HG := Lib.hid (get_c bs A c at_ k w w.heap.size hr hl)
  have c0 := hs.cell 0
  have d0 := ha.cell 0
  have f0 := ha.free 0
  have HA := Lib.hid ha
  obtain ⟨n, hn⟩ : ∃ n, n = bs.length := ⟨_, rfl⟩
  rw [← hn] at c0 HG
  clear hs ha hr hl hn
  go_enter Try.func24, Try.ntmps24
  go_wp2_with fail
  refine Calls.mono HG.out.go ?_
  rintro e w1 ⟨rfl, mm, rfl⟩
  have HF := Lib.hid (show NextP (.int .u64 (U64 (getB bs at_ k))) pa (at_ + k) w (.returned (.int .u64 (U64 (getB bs at_ k)))) ((w.drewN mm).setCell ⟨pa, 0, none⟩ (.int .i64 (at_ + k))) from ⟨rfl, (HA.out.drewN mm).set 0 _, ⟨rfl, rfl, rfl, by simp [World.setCell], fun j _ hne => Below.heap_setCell _ _ _ _ hne⟩⟩)
  go_wp2_with fail
  go_ret
  exact HF.out
theorem small6_c (bs : List (BitVec 8)) (A : Option Addr) (c ps pa pf : Nat) (at_ : Int) (x : Nat) (w : World) (hs : Bk w ps 29 #[.slice A bs.length c]) (ha : Bk w pa 3 #[.int .i64 at_]) (hf : Bk w pf 59 #[.func (.func 24) #[] #[.pointer (some ⟨ps, 0, none⟩), .pointer (some ⟨pa, 0, none⟩)]]) (hr : Rd b8 w w.heap.size A bs) (hl : bs.length ≤ 2147483648) (h1 : 0 ≤ at_) (h2 : at_ ≤ 100000) (hx : U64 (getB bs at_ 4) = (x : Int)) (hxl : x ≤ 4294967296) :
    Calls Try.prog 26 #[.pointer (some ⟨pf, 0, none⟩)] w (NextP (.int .i64 (x : Int)) pa (at_ + 4) w) := by
  have HN := Lib.hid (next_c bs A c ps pa at_ 4 w hs ha hr hl h1 h2 (by decide) (by decide))
  rw [hx] at HN
  have p1 : (0 : Int) ≤ (x : Int) := by omega
  have p2 : (x : Int) ≤ 4294967296 := by omega
  have c0 := hf.cell 0
  clear hs ha hf hr hl hx
  go_enter Try.func26, Try.ntmps26
  go_wp2_with fail
  refine Calls.mono HN.out ?_
  rintro e w1 ⟨rfl, hb, ho⟩
  have HF := Lib.hid (show NextP (.int .i64 (x : Int)) pa (at_ + 4) w (.returned (.int .i64 (x : Int))) w1 from ⟨rfl, hb, ho⟩)
  clear hb ho
  go_wp2_with fail
  go_ret
  exact HF.out
end Go.Proofs.Ytjdifejnnkplaaa
