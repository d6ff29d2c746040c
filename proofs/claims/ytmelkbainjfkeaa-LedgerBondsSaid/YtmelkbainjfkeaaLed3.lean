/-
  Layer 18: PayIn and PayOut at bad players, at too much, and PayOut done. Own work.
-/
import Derived.Test.YtmelkbainjfkeaaLed2
namespace Go.Proofs.Ytmelkbainjfkeaa
open Go.RowKit
set_option linter.unusedVariables false
namespace Led
theorem payIn_bad (b : Nat) (p v : Int) (w : World) (h : p < 0 ∨ 8 ≤ p) :
    Calls Try.prog 7 #[.pointer (some ⟨b, 0, none⟩), .int .i64 p, .int .u64 v] w fun e w' => e = .returned (.iface 38 (.int .i64 2)) ∧ ∃ n, w' = w.drewN n := by
  go_enter Try.func7, Try.ntmps7
  go_wp2_with fail
  refine (check_bad b _ _ h).mono ?_
  rintro e w' ⟨rfl, q, rfl⟩
  go_wp2_with fail
  go_ret
  exact ⟨rfl, _, rfl⟩
theorem payIn_more (b : Nat) (p v s : Int) (w : World) (h0 : 0 ≤ p) (h1 : p < 8) (s0 : 0 ≤ s) (s1 : s ≤ 281474976710656) (sv : 281474976710656 < s + v)
    (hs : w.cell? ⟨b, 9, none⟩ = some (.int .u64 s)) :
    Calls Try.prog 7 #[.pointer (some ⟨b, 0, none⟩), .int .i64 p, .int .u64 v] w fun e w' => e = .returned (.iface 38 (.int .i64 2)) ∧ ∃ n, w' = w.drewN n := by
  go_enter Try.func7, Try.ntmps7
  go_wp2_with fail
  refine (check_ok b _ _ h0 h1).mono ?_
  rintro e w' ⟨rfl, q, rfl⟩
  have hs2 : (w.drewN q).cell? ⟨b, 9, none⟩ = some (.int .u64 s) := hs
  go_wp2_with fail
  go_ret
  exact ⟨rfl, _, rfl⟩
theorem payOut_bad (b : Nat) (p v : Int) (w : World) (h : p < 0 ∨ 8 ≤ p) :
    Calls Try.prog 12 #[.pointer (some ⟨b, 0, none⟩), .int .i64 p, .int .u64 v] w fun e w' => e = .returned (.iface 38 (.int .i64 2)) ∧ ∃ n, w' = w.drewN n := by
  go_enter Try.func12, Try.ntmps12
  go_wp2_with fail
  refine (check_bad b _ _ h).mono ?_
  rintro e w' ⟨rfl, q, rfl⟩
  go_wp2_with fail
  go_ret
  exact ⟨rfl, _, rfl⟩
theorem lock_bad (b : Nat) (p v : Int) (w : World) (h : p < 0 ∨ 8 ≤ p) :
    Calls Try.prog 8 #[.pointer (some ⟨b, 0, none⟩), .int .i64 p, .int .u64 v] w fun e w' => e = .returned (.tuple #[.int .i64 0, .iface 38 (.int .i64 2)]) ∧ ∃ n, w' = w.drewN n := by
  go_enter Try.func8, Try.ntmps8
  go_wp2_with fail
  refine (check_bad b _ _ h).mono ?_
  rintro e w' ⟨rfl, q, rfl⟩
  go_wp2_with fail
  go_ret2
  exact ⟨rfl, _, rfl⟩
theorem give_bad (b : Nat) (n p : Int) (w : World) (h : p < 0 ∨ 8 ≤ p) :
    Calls Try.prog 11 #[.pointer (some ⟨b, 0, none⟩), .int .i64 n, .int .i64 p] w fun e w' => e = .returned (.iface 38 (.int .i64 2)) ∧ ∃ n, w' = w.drewN n := by
  go_enter Try.func11, Try.ntmps11
  go_wp2_with fail
  refine (check_bad b _ _ h).mono ?_
  rintro e w' ⟨rfl, q, rfl⟩
  go_wp2_with fail
  go_ret
  exact ⟨rfl, _, rfl⟩
theorem payOut_funds (b : Nat) (p v x : Int) (w : World) (h0 : 0 ≤ p) (h1 : p < 8) (xv : x < v) (hx : w.cell? ⟨b, p.toNat, none⟩ = some (.int .u64 x)) :
    Calls Try.prog 12 #[.pointer (some ⟨b, 0, none⟩), .int .i64 p, .int .u64 v] w fun e w' => e = .returned (.iface 38 (.int .i64 21)) ∧ ∃ n, w' = w.drewN n := by
  go_enter Try.func12, Try.ntmps12
  go_wp2_with fail
  refine (check_ok b _ _ h0 h1).mono ?_
  rintro e w' ⟨rfl, q, rfl⟩
  have hx2 : (w.drewN q).cell? ⟨b, p.toNat, none⟩ = some (.int .u64 x) := hx
  go_wp2_with fail
  go_ret
  exact ⟨rfl, _, rfl⟩
theorem lock_funds (b : Nat) (p v x : Int) (w : World) (h0 : 0 ≤ p) (h1 : p < 8) (xv : x < v) (hx : w.cell? ⟨b, p.toNat, none⟩ = some (.int .u64 x)) :
    Calls Try.prog 8 #[.pointer (some ⟨b, 0, none⟩), .int .i64 p, .int .u64 v] w fun e w' => e = .returned (.tuple #[.int .i64 0, .iface 38 (.int .i64 21)]) ∧ ∃ n, w' = w.drewN n := by
  go_enter Try.func8, Try.ntmps8
  go_wp2_with fail
  refine (check_ok b _ _ h0 h1).mono ?_
  rintro e w' ⟨rfl, q, rfl⟩
  have hx2 : (w.drewN q).cell? ⟨b, p.toNat, none⟩ = some (.int .u64 x) := hx
  go_wp2_with fail
  go_ret2
  exact ⟨rfl, _, rfl⟩
end Led
end Go.Proofs.Ytmelkbainjfkeaa
