/-
  Layer 16: the program's contracts over the bad inputs, and each function and its answer side by side. Own work.
-/
import Derived.Test.YtlbbnflchkejgaaDoorPosR
import Derived.Test.YtlbbnflchkejgaaDoorWhy
namespace Go.Proofs.YtlbbnflchkejgaaDoor
open Go.RowKit
set_option linter.unusedVariables false
namespace PosC
def errV (n : Int) : Value := if n = 0 then .nilIface else .iface 33 (.int .i64 n)
theorem err0 : errV 0 = .nilIface := rfl
theorem err2 : errV 2 = .iface 33 (.int .i64 2) := rfl
theorem err45 : errV 45 = .iface 33 (.int .i64 45) := rfl
theorem trace_bad (p : Int) (k : Int) (w : World) (h : p = 0 ∨ 33554432 ≤ p) :
    Calls Tryd.prog 9 #[.int .u64 p, .int .i64 k] w fun e w' => e = .returned (.tuple #[.int .u64 0, .iface 33 (.int .i64 2)]) ∧ ∃ n, w' = w.drewN n := by
  have H := Lib.hid h
  clear h
  go_enter Tryd.func9, Tryd.ntmps9
  go_wp2_with fail
  refine (Pos.parts_bad p _ H.out).mono ?_
  rintro e w' ⟨rfl, q, rfl⟩
  go_wp2_with fail
  go_ret2
  exact ⟨rfl, _, rfl⟩
theorem trace_far (p d i k : Int) (w : World) (h0 : 0 ≤ d) (h1 : d ≤ 24) (hk : 24 < k) (i0 : 0 ≤ i) (i1 : i < 2 ^ d.toNat) (hp : p = 2 ^ d.toNat + i) :
    Calls Tryd.prog 9 #[.int .u64 p, .int .i64 k] w fun e w' => e = .returned (.tuple #[.int .u64 0, .iface 33 (.int .i64 2)]) ∧ ∃ n, w' = w.drewN n := by
  have H3 := Lib.hid hp
  have H4 := Lib.hid i1
  clear hp i1
  go_enter Tryd.func9, Tryd.ntmps9
  go_wp2_with fail
  refine (Pos.parts_ok p d i _ h0 (by omega) i0 H4.out H3.out).mono ?_
  rintro e w' ⟨rfl, q, rfl⟩
  go_wp2_with fail
  go_ret2
  exact ⟨rfl, _, rfl⟩
theorem attack_bad (p : Int) (w : World) (h : p = 0 ∨ 33554432 ≤ p) :
    Calls Tryd.prog 10 #[.int .u64 p] w fun e w' => e = .returned (.tuple #[.int .u64 0, .iface 33 (.int .i64 2)]) ∧ ∃ n, w' = w.drewN n := by
  have H := Lib.hid h
  clear h
  go_enter Tryd.func10, Tryd.ntmps10
  go_wp2_with fail
  refine (Pos.parts_bad p _ H.out).mono ?_
  rintro e w' ⟨rfl, q, rfl⟩
  go_wp2_with fail
  go_ret2
  exact ⟨rfl, _, rfl⟩
theorem attack_deep (p i : Int) (w : World) (i0 : 0 ≤ i) (i1 : i < 2 ^ (24 : Int).toNat) (hp : p = 2 ^ (24 : Int).toNat + i) :
    Calls Tryd.prog 10 #[.int .u64 p] w fun e w' => e = .returned (.tuple #[.int .u64 0, .iface 33 (.int .i64 2)]) ∧ ∃ n, w' = w.drewN n := by
  have H := Lib.hid hp
  have H1 := Lib.hid i1
  have b5 : i < 16777216 := by simpa using i1
  clear hp i1
  go_enter Tryd.func10, Tryd.ntmps10
  go_wp2_with fail
  refine (Pos.parts_ok p 24 i _ (by decide) (by decide) i0 H1.out H.out).mono ?_
  rintro e w' ⟨rfl, q, rfl⟩
  go_wp2_with fail
  refine (Pos.make_deep 25 (2 * i) _ (by decide)).mono ?_
  rintro e w' ⟨rfl, q, rfl⟩
  go_wp2_with fail
  go_ret2
  exact ⟨rfl, _, rfl⟩
theorem defend_bad (p : Int) (w : World) (h : p = 0 ∨ 33554432 ≤ p) :
    Calls Tryd.prog 11 #[.int .u64 p] w fun e w' => e = .returned (.tuple #[.int .u64 0, .iface 33 (.int .i64 2)]) ∧ ∃ n, w' = w.drewN n := by
  have H := Lib.hid h
  clear h
  go_enter Tryd.func11, Tryd.ntmps11
  go_wp2_with fail
  refine (Pos.parts_bad p _ H.out).mono ?_
  rintro e w' ⟨rfl, q, rfl⟩
  go_wp2_with fail
  go_ret2
  exact ⟨rfl, _, rfl⟩
theorem defend_deep (p i : Int) (w : World) (i0 : 0 ≤ i) (i1 : i < 2 ^ (24 : Int).toNat) (hp : p = 2 ^ (24 : Int).toNat + i) :
    Calls Tryd.prog 11 #[.int .u64 p] w fun e w' => e = .returned (.tuple #[.int .u64 0, .iface 33 (.int .i64 2)]) ∧ ∃ n, w' = w.drewN n := by
  have H := Lib.hid hp
  have H1 := Lib.hid i1
  clear hp i1
  go_enter Tryd.func11, Tryd.ntmps11
  go_wp2_with fail
  refine (Pos.parts_ok p 24 i _ (by decide) (by decide) i0 H1.out H.out).mono ?_
  rintro e w' ⟨rfl, q, rfl⟩
  go_wp2_with fail
  go_ret2
  exact ⟨rfl, _, rfl⟩
theorem highest_out (p : Int) (k : Int) (w : World) (ht : ∀ w : World, Calls Tryd.prog 9 #[.int .u64 p, .int .i64 k] w fun e w' => e = .returned (.tuple #[.int .u64 0, .iface 33 (.int .i64 2)]) ∧ ∃ n, w' = w.drewN n) :
    Calls Tryd.prog 12 #[.int .u64 p, .int .i64 k] w fun e w' => e = .returned (.tuple #[.int .u64 0, .iface 33 (.int .i64 2)]) ∧ ∃ n, w' = w.drewN n := by
  have H := Lib.hid ht
  clear ht
  go_enter Tryd.func12, Tryd.ntmps12
  go_wp2_with fail
  refine (H.out _).mono ?_
  rintro e w' ⟨rfl, q, rfl⟩
  go_wp2_with fail
  go_ret2
  exact ⟨rfl, _, rfl⟩
end PosC
end Go.Proofs.YtlbbnflchkejgaaDoor
