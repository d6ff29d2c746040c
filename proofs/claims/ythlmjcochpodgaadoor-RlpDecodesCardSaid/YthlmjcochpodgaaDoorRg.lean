/-
  rlp.Value, mootref03.Value. Own work.
-/
import Derived.Test.YthlmjcochpodgaaDoorRf
namespace Go.Proofs.YthlmjcochpodgaaDoor
open Go.ChangeShapes Go.WideShapes Go.Deep Go.RowKit
set_option linter.unusedVariables false
set_option linter.unusedSimpArgs false
namespace Rl
/-- What Value's way is: 3 (a list), 12 (no number), 0. -/
def valW (l : Bool) (bs : List Bt) : Int := if l then 3 else if 8 < bs.length ∨ bs.head? = some 0#8 then 12 else 0
set_option maxHeartbeats 2000000 in
set_option maxRecDepth 100000 in
theorem value_list (w : World) (l : Bool) (n c n' c' : Nat) (a a' : Option Addr)  :
    Calls Tryd.prog 22 #[.agg #[.bool true, .slice a n c, .slice a' n' c']] w fun e w' => e = .returned (.tuple #[.int .u64 0, eN 3]) ∧ Below w.heap.size w w' := by
  go_enter Tryd.func22, Tryd.ntmps22
  go_wp2_with (fail)
  go_ret2
  exact ⟨rfl, (Below.refl _ _).alloc (Nat.le_refl _) _⟩
set_option maxHeartbeats 2000000 in
set_option maxRecDepth 100000 in
theorem value_long (w : World) (l : Bool) (n c n' c' : Nat) (a a' : Option Addr) (h : 8 < n) :
    Calls Tryd.prog 22 #[.agg #[.bool false, .slice a n c, .slice a' n' c']] w fun e w' => e = .returned (.tuple #[.int .u64 0, eN 12]) ∧ Below w.heap.size w w' := by
  have h1 : (8 : Int) < (n : Int) := by omega
  clear h
  go_enter Tryd.func22, Tryd.ntmps22
  go_wp2_with (fail)
  go_ret2
  exact ⟨rfl, (Below.refl _ _).alloc (Nat.le_refl _) _⟩
set_option maxHeartbeats 2000000 in
set_option maxRecDepth 100000 in
theorem value_zero (w : World) (l : Bool) (n c n' c' : Nat) (a a' : Option Addr) (b o : Nat) (ha : a = some ⟨b, o, none⟩) (h0 : 0 < n) (h8 : n ≤ 8) (hc : w.cell? ⟨b, o, none⟩ = some (.int .u8 0)) :
    Calls Tryd.prog 22 #[.agg #[.bool false, .slice a n c, .slice a' n' c']] w fun e w' => e = .returned (.tuple #[.int .u64 0, eN 12]) ∧ Below w.heap.size w w' := by
  subst ha
  have h1 : decide ((8 : Int) < (n : Int)) = false := by simp; omega
  have h2 : (0 : Int) < (n : Int) := by omega
  have hc2 := keep1 ((Below.refl w.heap.size w).alloc (Nat.le_refl _) (.cells #[.bool false, .slice (some ⟨b, o, none⟩) n c, .slice a' n' c'] 25)) hc
  clear h0 h8 hc
  go_enter Tryd.func22, Tryd.ntmps22
  go_wp2_with (fail)
  go_ret2
  exact ⟨rfl, (Below.refl _ _).alloc (Nat.le_refl _) _⟩
set_option maxHeartbeats 2000000 in
set_option maxRecDepth 100000 in
theorem value_none (w : World) (l : Bool) (n c n' c' : Nat) (a a' : Option Addr) (bs : List Bt) (hB : IsB w a n c bs) (h8 : n ≤ 8) (hn : n = 0) :
    Calls Tryd.prog 22 #[.agg #[.bool false, .slice a n c, .slice a' n' c']] w fun e w' => e = .returned (.tuple #[.int .u64 (num 0 bs), .nilIface]) ∧ Below w.heap.size w w' := by
  subst hn
  have HN := Lib.hid (number_walk (w.alloc (.cells #[.bool false, .slice a 0 c, .slice a' n' c'] 25)) a 0 c bs (hB.keep (keep_below ((Below.refl w.heap.size w).alloc (Nat.le_refl _) (.cells #[.bool false, .slice a 0 c, .slice a' n' c'] 25)))) h8)
  clear hB h8
  go_enter Tryd.func22, Tryd.ntmps22
  go_wp2_with (go_at_call 40; (with_reducible refine HN.out.mono ?_); rintro e y1 ⟨rfl, rfl⟩)
  go_ret2
  exact ⟨rfl, (Below.refl _ _).alloc (Nat.le_refl _) _⟩
set_option maxHeartbeats 2000000 in
set_option maxRecDepth 100000 in
theorem value_some (w : World) (l : Bool) (n c n' c' : Nat) (a a' : Option Addr) (bs : List Bt) (hB : IsB w a n c bs) (b o : Nat) (ha : a = some ⟨b, o, none⟩) (h0 : 0 < n) (h8 : n ≤ 8) (x : Nat) (hx : x ≠ 0) (hc : w.cell? ⟨b, o, none⟩ = some (.int .u8 x)) :
    Calls Tryd.prog 22 #[.agg #[.bool false, .slice a n c, .slice a' n' c']] w fun e w' => e = .returned (.tuple #[.int .u64 (num 0 bs), .nilIface]) ∧ Below w.heap.size w w' := by
  subst ha
  have h1 : decide ((8 : Int) < (n : Int)) = false := by simp; omega
  have h2 : (0 : Int) < (n : Int) := by omega
  have h3 : ((x : Int) == 0) = false := by
    have : ¬ (x : Int) = 0 := by omega
    simpa using this
  have hc2 := keep1 ((Below.refl w.heap.size w).alloc (Nat.le_refl _) (.cells #[.bool false, .slice (some ⟨b, o, none⟩) n c, .slice a' n' c'] 25)) hc
  have HN := Lib.hid (number_walk (w.alloc (.cells #[.bool false, .slice (some ⟨b, o, none⟩) n c, .slice a' n' c'] 25)) (some ⟨b, o, none⟩) n c bs (hB.keep (keep_below ((Below.refl w.heap.size w).alloc (Nat.le_refl _) (.cells #[.bool false, .slice (some ⟨b, o, none⟩) n c, .slice a' n' c'] 25)))) h8)
  clear hB h0 h8 hc hx
  go_enter Tryd.func22, Tryd.ntmps22
  go_wp2_with (go_at_call 40; (with_reducible refine HN.out.mono ?_); rintro e y1 ⟨rfl, rfl⟩)
  go_ret2
  exact ⟨rfl, (Below.refl _ _).alloc (Nat.le_refl _) _⟩
set_option maxHeartbeats 2000000 in
set_option maxRecDepth 100000 in
theorem rvalue_list (w : World) (l : Bool) (n c n' c' : Nat) (a a' : Option Addr)  :
    Calls Tryd.prog 23 #[.agg #[.bool true, .slice a n c, .slice a' n' c']] w fun e w' => e = .returned (.tuple #[.int .u64 0, .int .i64 3]) ∧ Below w.heap.size w w' := by
  go_enter Tryd.func23, Tryd.ntmps23
  go_wp2_with (fail)
  go_ret2
  exact ⟨rfl, (Below.refl _ _).alloc (Nat.le_refl _) _⟩
set_option maxHeartbeats 2000000 in
set_option maxRecDepth 100000 in
theorem rvalue_long (w : World) (l : Bool) (n c n' c' : Nat) (a a' : Option Addr) (h : 8 < n) :
    Calls Tryd.prog 23 #[.agg #[.bool false, .slice a n c, .slice a' n' c']] w fun e w' => e = .returned (.tuple #[.int .u64 0, .int .i64 12]) ∧ Below w.heap.size w w' := by
  have h1 : (8 : Int) < (n : Int) := by omega
  clear h
  go_enter Tryd.func23, Tryd.ntmps23
  go_wp2_with (fail)
  go_ret2
  exact ⟨rfl, (Below.refl _ _).alloc (Nat.le_refl _) _⟩
set_option maxHeartbeats 2000000 in
set_option maxRecDepth 100000 in
theorem rvalue_zero (w : World) (l : Bool) (n c n' c' : Nat) (a a' : Option Addr) (b o : Nat) (ha : a = some ⟨b, o, none⟩) (h0 : 0 < n) (h8 : n ≤ 8) (hc : w.cell? ⟨b, o, none⟩ = some (.int .u8 0)) :
    Calls Tryd.prog 23 #[.agg #[.bool false, .slice a n c, .slice a' n' c']] w fun e w' => e = .returned (.tuple #[.int .u64 0, .int .i64 12]) ∧ Below w.heap.size w w' := by
  subst ha
  have h1 : decide ((8 : Int) < (n : Int)) = false := by simp; omega
  have h2 : (0 : Int) < (n : Int) := by omega
  have hc2 := keep1 ((Below.refl w.heap.size w).alloc (Nat.le_refl _) (.cells #[.bool false, .slice (some ⟨b, o, none⟩) n c, .slice a' n' c'] 25)) hc
  clear h0 h8 hc
  go_enter Tryd.func23, Tryd.ntmps23
  go_wp2_with (fail)
  go_ret2
  exact ⟨rfl, (Below.refl _ _).alloc (Nat.le_refl _) _⟩
end Rl
end Go.Proofs.YthlmjcochpodgaaDoor
