/-
  merkle: at, check, isPlace. Own work.
-/
import Derived.Test.YtjfpbponjhpdhaaDoorMs
import Derived.Test.YtjfpbponjhpdhaaDoorErr
import Derived.IntWalk
import Derived.Outline
namespace Go.Proofs.YtjfpbponjhpdhaaDoor
open Go.RowKit
set_option linter.unusedVariables false
namespace Mk
open Kc
/-- A block of one digest. -/
theorem put_new (w : World) (x : Hx) (zh : Array Value) (hz : (tab 32 fun _ => bv 0#8) = zh) : IsTab (w.alloc (.cells zh 42)) w.heap.size 42 32 fun _ => bv 0#8 := by
  rw [← hz]; exact IsTab.new w _ 32 _
set_option maxRecDepth 100000 in
theorem at_in (b o c n : Nat) (f : Nat → Hx) (i : Nat) (z : Hx) (w : World) (h : At5 w b o n f) (hi : i < n) (hn : n ≤ c) (hc : c ≤ 9223372036854775807) :
    Calls Tryd.prog 80 #[.slice (some ⟨b, o, none⟩) n c, .int .i64 i, dv z] w fun e w' => e = .returned (dv (f i)) ∧ Below w.heap.size w w' := by
  have z2 := zeroHash
  generalize hz : (tab 32 fun _ => bv 0#8) = zh at *
  have HZ := Lib.hid hz
  clear hz
  have H := Lib.hid h
  clear h
  have hlt : (i : Int) < (n : Int) := by omega
  have hN : (n : Int) ≤ 9223372036854775807 := by omega
  unfold dv
  go_enter Tryd.func80, Tryd.ntmps80
  go_upto_region 2 with (fail)
  have H1 : Hid (IsTab ((w.alloc (.cells (tab 32 fun i => bv (z i)) 42)).alloc (.cells zh 42)) (w.heap.size + 1) 42 32 (fun _ => bv 0#8) ∧ Below w.heap.size w ((w.alloc (.cells (tab 32 fun i => bv (z i)) 42)).alloc (.cells zh 42))) := by
    have := put_new (w.alloc (.cells (tab 32 fun i => bv (z i)) 42)) z zh HZ.out
    exact Lib.hid ⟨by simpa using this, ((Below.refl _ _).alloc (Nat.le_refl _) _).alloc (by simp) _⟩
  generalize (w.alloc (.cells (tab 32 fun i => bv (z i)) 42)).alloc (.cells zh 42) = y at *
  generalize hq : w.heap.size + 1 = q1 at *
  have HQ := Lib.hid hq
  clear hq
  have hld := loadH (H.out.below H1.out.2) hi (p := o + i * 32) (by omega)
  unfold dv at hld
  have HL := Lib.hid hld
  clear hld
  go_wp2_with (first
    | (refine wpList_loadE rfl 42 (.tmp 13) rfl _ _ rfl HL.out ?_)
    | (refine wpList_store_row rfl 42 (.tmp 6) (.tmp 14) rfl q1 (tab 32 fun j => bv (f i j)) rfl rfl 42 _ H1.out.1 (infH _) (by rw [tab_size, tab_size]) (one_bv _ _) ?_))
  have hr : IsTab (World.setRow y q1 (tab 32 fun j => bv (f i j))) q1 42 32 fun j => bv (f i j) := H1.out.1.row
  exact bodyPost_ret (results_cell_row rfl _ _ q1 42 _ (0, 0) _ rfl hr undH rfl (infH _)) rfl ⟨rfl, below_setRow H1.out.2 (by have := HQ.out; omega) _⟩
set_option maxRecDepth 100000 in
theorem at_out (a : Option Addr) (c n : Nat) (i : Nat) (z : Hx) (w : World) (hi : n ≤ i) (hi2 : i ≤ 9223372036854775807) :
    Calls Tryd.prog 80 #[.slice a n c, .int .i64 i, dv z] w fun e w' => e = .returned (dv z) ∧ Below w.heap.size w w' := by
  have z2 := zeroHash
  generalize hz : (tab 32 fun _ => bv 0#8) = zh at *
  have HZ := Lib.hid hz
  clear hz
  have hlt : ¬ (i : Int) < (n : Int) := by omega
  have hN : (n : Int) ≤ 9223372036854775807 := by omega
  unfold dv
  go_enter Tryd.func80, Tryd.ntmps80
  go_upto_region 3 with (fail)
  have H1 : Hid (IsTab ((w.alloc (.cells (tab 32 fun i => bv (z i)) 42)).alloc (.cells zh 42)) (w.heap.size + 1) 42 32 (fun _ => bv 0#8) ∧ IsTab ((w.alloc (.cells (tab 32 fun i => bv (z i)) 42)).alloc (.cells zh 42)) w.heap.size 42 32 (fun i => bv (z i)) ∧ Below w.heap.size w ((w.alloc (.cells (tab 32 fun i => bv (z i)) 42)).alloc (.cells zh 42))) := by
    have := put_new (w.alloc (.cells (tab 32 fun i => bv (z i)) 42)) z zh HZ.out
    exact Lib.hid ⟨by simpa using this, (IsTab.new w _ 32 _).alloc _, ((Below.refl _ _).alloc (Nat.le_refl _) _).alloc (by simp) _⟩
  generalize (w.alloc (.cells (tab 32 fun i => bv (z i)) 42)).alloc (.cells zh 42) = y at *
  generalize hq : w.heap.size + 1 = q1 at *
  have HQ := Lib.hid hq
  clear hq
  go_wp2_with (first
    | (refine wpList_load_row rfl 42 (.tmp 5) rfl w.heap.size rfl 42 (tab 32 fun i => bv (z i)) (0, 0) _ H1.out.2.1 undH rfl (infH _) ?_)
    | (refine wpList_store_row rfl 42 (.tmp 6) (.tmp 15) rfl q1 (tab 32 fun j => bv (z j)) rfl rfl 42 _ H1.out.1 (infH _) (by rw [tab_size, tab_size]) (one_bv _ _) ?_))
  have hr : IsTab (World.setRow y q1 (tab 32 fun j => bv (z j))) q1 42 32 fun j => bv (z j) := H1.out.1.row
  exact bodyPost_ret (results_cell_row rfl _ _ q1 42 _ (0, 0) _ rfl hr undH rfl (infH _)) rfl ⟨rfl, below_setRow H1.out.2.2 (by have := HQ.out; omega) _⟩
/-- One of the digests, or what stands behind them. -/
theorem at_any (a : Option Addr) (c n : Nat) (f : Nat → Hx) (i : Nat) (z : Hx) (w : World) (h : IsHs w a n f) (hn : n ≤ c) (hc : c ≤ 9223372036854775807) (hi : i ≤ 9223372036854775807) :
    Calls Tryd.prog 80 #[.slice a n c, .int .i64 i, dv z] w fun e w' => e = .returned (dv (if i < n then f i else z)) ∧ Below w.heap.size w w' := by
  by_cases h1 : i < n
  · rw [if_pos h1]
    obtain ⟨b, o, rfl, h2⟩ := h.at h1
    exact at_in b o c n f i z w h2 h1 hn hc
  · rw [if_neg h1]
    exact at_out a c n i z w (by omega) hi
/-! ## check, isPlace -/
theorem p2_pos (n : Nat) : (0 : Int) < 2 ^ n := Int.pow_pos (by decide)
theorem p2_nat (d k : Nat) (h1 : d ≤ k) : (2 : Int) ^ d ≤ 2 ^ k := by
  have h2 : ((2 ^ d : Nat) : Int) ≤ ((2 ^ k : Nat) : Int) := by exact_mod_cast Nat.pow_le_pow_right (by decide) h1
  simpa [Int.natCast_pow] using h2
def errV (n : Int) : Value := if n = 0 then .nilIface else .iface 85 (.int .i64 n)
theorem err0 : errV 0 = .nilIface := rfl
theorem err2 : errV 2 = .iface 85 (.int .i64 2) := rfl
theorem err5 : errV 5 = .iface 85 (.int .i64 5) := rfl
/-- What is wrong with a tree. -/
def wrong (d : Int) (n : Nat) : Int := if d < 0 ∨ 16 < d then 2 else if (2 : Int) ^ d.toNat < n then 5 else 0
theorem check_any (d : Int) (a : Option Addr) (n c : Nat) (w : World) (hn : n ≤ 9223372036854775807) :
    Calls Tryd.prog 63 #[.int .i64 d, .slice a n c] w fun e w' => e = .returned (errV (wrong d n)) ∧ w = w' := by
  by_cases h0 : d < 0
  · rw [show wrong d n = 2 from by unfold wrong; rw [if_pos (.inl h0)], err2]
    go_enter Tryd.func63, Tryd.ntmps63
    go_wp2
    go_ret
    exact ⟨rfl, rfl⟩
  · by_cases h1 : 16 < d
    · rw [show wrong d n = 2 from by unfold wrong; rw [if_pos (.inr h1)], err2]
      go_enter Tryd.func63, Tryd.ntmps63
      go_wp2
      go_ret
      exact ⟨rfl, rfl⟩
    · obtain ⟨k, rfl⟩ : ∃ k : Nat, d = k := ⟨d.toNat, by omega⟩
      have hk : k ≤ 16 := by omega
      have hp : (2 : Int) ^ k ≤ 65536 := by have := p2_nat k 16 hk; simpa using this
      have hp0 := p2_pos k
      by_cases h2 : (2 : Int) ^ k < n
      · go_enter Tryd.func63, Tryd.ntmps63
        go_wp2
        go_ret
        refine ⟨?_, rfl⟩
        unfold wrong
        rw [if_neg (by omega), if_pos (by simpa using h2)]
        rfl
      · go_enter Tryd.func63, Tryd.ntmps63
        go_wp2
        go_ret
        refine ⟨?_, rfl⟩
        unfold wrong
        rw [if_neg (by omega), if_neg (by simpa using h2)]
        rfl
theorem place_yes (i : Int) (d : Nat) (hd : d ≤ 16) (w : World) (h0 : 0 ≤ i) (h1 : i < 2 ^ d) :
    Calls Tryd.prog 65 #[.int .i64 i, .int .i64 d] w fun e w' => e = .returned (.bool true) ∧ w = w' := by
  have hp : (2 : Int) ^ d ≤ 65536 := by have := p2_nat d 16 hd; simpa using this
  have hp0 := p2_pos d
  go_enter Tryd.func65, Tryd.ntmps65
  go_wp2
  go_ret
  exact ⟨rfl, rfl⟩
theorem place_no (i : Int) (d : Nat) (hd : d ≤ 16) (w : World) (h : i < 0 ∨ 2 ^ d ≤ i) :
    Calls Tryd.prog 65 #[.int .i64 i, .int .i64 d] w fun e w' => e = .returned (.bool false) ∧ w = w' := by
  have hp : (2 : Int) ^ d ≤ 65536 := by have := p2_nat d 16 hd; simpa using this
  have hp0 := p2_pos d
  rcases h with h | h
  · go_enter Tryd.func65, Tryd.ntmps65
    go_wp2
    go_ret
    exact ⟨rfl, rfl⟩
  · have h0 : 0 ≤ i := by omega
    have h1 : decide (i < 2 ^ d) = false := decide_eq_false (by omega)
    go_enter Tryd.func65, Tryd.ntmps65
    go_wp2
    go_ret
    exact ⟨rfl, rfl⟩
end Mk
end Go.Proofs.YtjfpbponjhpdhaaDoor
