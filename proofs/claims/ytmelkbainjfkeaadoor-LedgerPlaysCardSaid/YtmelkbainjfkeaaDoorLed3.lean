/-
  Layer 18: PayIn and PayOut at bad players, at too much, and PayOut done. Own work.
-/
import Derived.Test.YtmelkbainjfkeaaDoorLed2
namespace Go.Proofs.YtmelkbainjfkeaaDoor
open Go.RowKit
set_option linter.unusedVariables false
namespace Led
theorem payIn_bad (b : Nat) (p v : Int) (w : World) (h : p < 0 ∨ 8 ≤ p) :
    Calls Tryd.prog 6 #[.pointer (some ⟨b, 0, none⟩), .int .i64 p, .int .u64 v] w fun e w' => e = .returned (.iface 42 (.int .i64 2)) ∧ ∃ n, w' = w.drewN n := by
  go_enter Tryd.func6, Tryd.ntmps6
  go_wp2_with fail
  refine (check_bad b _ _ h).mono ?_
  rintro e w' ⟨rfl, q, rfl⟩
  go_wp2_with fail
  go_ret
  exact ⟨rfl, _, rfl⟩
theorem payIn_more (b : Nat) (p v s : Int) (w : World) (h0 : 0 ≤ p) (h1 : p < 8) (s0 : 0 ≤ s) (s1 : s ≤ 281474976710656) (sv : 281474976710656 < s + v)
    (hs : w.cell? ⟨b, 9, none⟩ = some (.int .u64 s)) :
    Calls Tryd.prog 6 #[.pointer (some ⟨b, 0, none⟩), .int .i64 p, .int .u64 v] w fun e w' => e = .returned (.iface 42 (.int .i64 2)) ∧ ∃ n, w' = w.drewN n := by
  go_enter Tryd.func6, Tryd.ntmps6
  go_wp2_with fail
  refine (check_ok b _ _ h0 h1).mono ?_
  rintro e w' ⟨rfl, q, rfl⟩
  have hs2 : (w.drewN q).cell? ⟨b, 9, none⟩ = some (.int .u64 s) := hs
  go_wp2_with fail
  go_ret
  exact ⟨rfl, _, rfl⟩
theorem payOut_bad (b : Nat) (p v : Int) (w : World) (h : p < 0 ∨ 8 ≤ p) :
    Calls Tryd.prog 7 #[.pointer (some ⟨b, 0, none⟩), .int .i64 p, .int .u64 v] w fun e w' => e = .returned (.iface 42 (.int .i64 2)) ∧ ∃ n, w' = w.drewN n := by
  go_enter Tryd.func7, Tryd.ntmps7
  go_wp2_with fail
  refine (check_bad b _ _ h).mono ?_
  rintro e w' ⟨rfl, q, rfl⟩
  go_wp2_with fail
  go_ret
  exact ⟨rfl, _, rfl⟩
theorem lock_bad (b : Nat) (p v : Int) (w : World) (h : p < 0 ∨ 8 ≤ p) :
    Calls Tryd.prog 8 #[.pointer (some ⟨b, 0, none⟩), .int .i64 p, .int .u64 v] w fun e w' => e = .returned (.tuple #[.int .i64 0, .iface 42 (.int .i64 2)]) ∧ ∃ n, w' = w.drewN n := by
  go_enter Tryd.func8, Tryd.ntmps8
  go_wp2_with fail
  refine (check_bad b _ _ h).mono ?_
  rintro e w' ⟨rfl, q, rfl⟩
  go_wp2_with fail
  go_ret2
  exact ⟨rfl, _, rfl⟩
theorem give_bad (b : Nat) (n p : Int) (w : World) (h : p < 0 ∨ 8 ≤ p) :
    Calls Tryd.prog 9 #[.pointer (some ⟨b, 0, none⟩), .int .i64 n, .int .i64 p] w fun e w' => e = .returned (.iface 42 (.int .i64 2)) ∧ ∃ n, w' = w.drewN n := by
  go_enter Tryd.func9, Tryd.ntmps9
  go_wp2_with fail
  refine (check_bad b _ _ h).mono ?_
  rintro e w' ⟨rfl, q, rfl⟩
  go_wp2_with fail
  go_ret
  exact ⟨rfl, _, rfl⟩
theorem payOut_funds (b : Nat) (p v x : Int) (w : World) (h0 : 0 ≤ p) (h1 : p < 8) (xv : x < v) (hx : w.cell? ⟨b, p.toNat, none⟩ = some (.int .u64 x)) :
    Calls Tryd.prog 7 #[.pointer (some ⟨b, 0, none⟩), .int .i64 p, .int .u64 v] w fun e w' => e = .returned (.iface 42 (.int .i64 21)) ∧ ∃ n, w' = w.drewN n := by
  go_enter Tryd.func7, Tryd.ntmps7
  go_wp2_with fail
  refine (check_ok b _ _ h0 h1).mono ?_
  rintro e w' ⟨rfl, q, rfl⟩
  have hx2 : (w.drewN q).cell? ⟨b, p.toNat, none⟩ = some (.int .u64 x) := hx
  go_wp2_with fail
  go_ret
  exact ⟨rfl, _, rfl⟩
theorem lock_funds (b : Nat) (p v x : Int) (w : World) (h0 : 0 ≤ p) (h1 : p < 8) (xv : x < v) (hx : w.cell? ⟨b, p.toNat, none⟩ = some (.int .u64 x)) :
    Calls Tryd.prog 8 #[.pointer (some ⟨b, 0, none⟩), .int .i64 p, .int .u64 v] w fun e w' => e = .returned (.tuple #[.int .i64 0, .iface 42 (.int .i64 21)]) ∧ ∃ n, w' = w.drewN n := by
  go_enter Tryd.func8, Tryd.ntmps8
  go_wp2_with fail
  refine (check_ok b _ _ h0 h1).mono ?_
  rintro e w' ⟨rfl, q, rfl⟩
  have hx2 : (w.drewN q).cell? ⟨b, p.toNat, none⟩ = some (.int .u64 x) := hx
  go_wp2_with fail
  go_ret2
  exact ⟨rfl, _, rfl⟩
end Led
end Go.Proofs.YtmelkbainjfkeaaDoor
