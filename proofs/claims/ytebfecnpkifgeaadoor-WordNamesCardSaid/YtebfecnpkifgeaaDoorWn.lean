/-
  WordNames. Own work.
-/
import Derived.Test.YtebfecnpkifgeaaDoorWuF
import Derived.Deep.Cut
import Derived.Deep.CutBlock
namespace Go.Proofs.YtebfecnpkifgeaaDoor
open Go.RowKit
set_option linter.unusedVariables false
namespace W1
theorem swapW {P : Program} {f : FuncId} {args : Array Value} {w : World} {v : Value} (h : Calls P f args w fun e w' => e = .returned v ∧ w = w') : Calls P f args w fun e w' => e = .returned v ∧ w' = w := h.mono fun _ _ ⟨a, b⟩ => ⟨a, b.symm⟩
def nameL : List Int := [1, 2, 3, 4, 5, 10, 11, 12, 13, 14, 20, 21, 22, 23, 24, 25, 30, 31, 32, 40, 41, 42, 43, 44, 45, 46, 50, 51]
def nameAt (i : Nat) : Int := nameL.getD i 0
def nameArr : Array Value := (nameL.map fun z => Value.int .i64 z).toArray
theorem name_arr : ∀ i : Fin 28, nameArr[i.val]? = some (.int .i64 (nameAt i.val)) := by intro i; obtain ⟨i, hi⟩ := i; simp [nameArr, nameAt, List.getD_eq_getElem?_getD]; rw [List.getElem?_eq_getElem (by exact hi)]; rfl
theorem name_in : ∀ i : Fin 28, 0 ≤ nameAt i.val ∧ nameAt i.val < 100 := by decide
theorem bldE (u : World) : (Instr.buildSlice 23 28 #[(0, .int .i64 1), (1, .int .i64 2), (2, .int .i64 3), (3, .int .i64 4), (4, .int .i64 5), (5, .int .i64 10), (6, .int .i64 11), (7, .int .i64 12), (8, .int .i64 13), (9, .int .i64 14), (10, .int .i64 20), (11, .int .i64 21), (12, .int .i64 22), (13, .int .i64 23), (14, .int .i64 24), (15, .int .i64 25), (16, .int .i64 30), (17, .int .i64 31), (18, .int .i64 32), (19, .int .i64 40), (20, .int .i64 41), (21, .int .i64 42), (22, .int .i64 43), (23, .int .i64 44), (24, .int .i64 45), (25, .int .i64 46), (26, .int .i64 50), (27, .int .i64 51)]).run Tryd.prog u = .ok (.slice (some ⟨u.heap.size, 0, none⟩) 28 28) (u.alloc (.cells nameArr 22)) := by kernel_rfl
theorem bldI (u : World) : (Instr.buildSlice 24 28 #[(0, .int .i64 1), (1, .int .i64 2), (2, .int .i64 3), (3, .int .i64 4), (4, .int .i64 5), (5, .int .i64 10), (6, .int .i64 11), (7, .int .i64 12), (8, .int .i64 13), (9, .int .i64 14), (10, .int .i64 20), (11, .int .i64 21), (12, .int .i64 22), (13, .int .i64 23), (14, .int .i64 24), (15, .int .i64 25), (16, .int .i64 30), (17, .int .i64 31), (18, .int .i64 32), (19, .int .i64 40), (20, .int .i64 41), (21, .int .i64 42), (22, .int .i64 43), (23, .int .i64 44), (24, .int .i64 45), (25, .int .i64 46), (26, .int .i64 50), (27, .int .i64 51)]).run Tryd.prog u = .ok (.slice (some ⟨u.heap.size, 0, none⟩) 28 28) (u.alloc (.cells nameArr 3)) := by kernel_rfl
theorem itoa_small (n : Nat) (hn : n < 100) (w : World) : Calls Tryd.prog 7 #[.int .i64 n] w fun e w' => e = .returned (.string ⟨(Lib.decDigits n).toArray⟩) ∧ w = w' := by
  go_enter Tryd.func7, Tryd.ntmps7
  go_wp2_with fail
  have h : Calls Tryd.prog 18 #[.int .i64 n] w fun e w' => e = .returned (.string ⟨(Lib.decDigits n).toArray⟩) ∧ w = w' := by
    go_enter Tryd.func18, Tryd.ntmps18
    go_wp2_with fail
    refine (Tryd.internal_strconv_FormatInt_10_small n hn w).mono ?_
    rintro e w' ⟨rfl, rfl⟩
    go_wp2_with fail
    go_ret
    exact ⟨rfl, rfl⟩
  refine h.mono ?_
  rintro e w' ⟨rfl, rfl⟩
  go_wp2_with fail
  go_ret
  exact ⟨rfl, rfl⟩
/-- The two rows of numbers, and the old memory. -/
structure Nm (W : World) (q1 q2 : Nat) (y : World) : Prop where
  c1 : ∀ k, k < 28 → y.cell? ⟨q1, k, none⟩ = some (.int .i64 (nameAt k))
  c2 : ∀ k, k < 28 → y.cell? ⟨q2, k, none⟩ = some (.int .i64 (nameAt k))
  below : Below W.heap.size W y
theorem dec_len : ∀ i : Fin 100, (Lib.decDigits i.val).length ≤ 2 := by decide +kernel
def eText (n : Nat) : ByteArray := ⟨#[69]⟩ ++ ⟨(Lib.decDigits n).toArray⟩
theorem error_small (n : Nat) (hn : n < 100) (w : World) : Calls Tryd.prog 6 #[.int .i64 n] w fun e w' => e = .returned (.string (eText n)) ∧ w = w' := by
  have hl := dec_len ⟨n, hn⟩
  go_enter Tryd.func6, Tryd.ntmps6
  go_wp2_with fail
  refine (itoa_small n hn w).mono ?_
  rintro e w' ⟨rfl, rfl⟩
  go_wp2_with fail
  go_ret
  exact ⟨rfl, rfl⟩
set_option maxHeartbeats 2000000 in
set_option maxRecDepth 100000 in
theorem names_walk (w : World) : Calls Tryd.prog 3 #[] w fun e w' => e = .returned (.bool true) ∧ Below w.heap.size w w' := by
  have b1 := bldE
  have b2 := bldI
  go_enter Tryd.func3, Tryd.ntmps3
  go_upto_region 3 with (fail)
  have hN : (#[Value.int .i64 1, Value.int .i64 2, Value.int .i64 3, Value.int .i64 4, Value.int .i64 5, Value.int .i64 10, Value.int .i64 11, Value.int .i64 12, Value.int .i64 13, Value.int .i64 14, Value.int .i64 20, Value.int .i64 21, Value.int .i64 22, Value.int .i64 23, Value.int .i64 24, Value.int .i64 25, Value.int .i64 30, Value.int .i64 31, Value.int .i64 32, Value.int .i64 40, Value.int .i64 41, Value.int .i64 42, Value.int .i64 43, Value.int .i64 44, Value.int .i64 45, Value.int .i64 46, Value.int .i64 50, Value.int .i64 51] : Array Value) = nameArr := rfl
  rw [hN]
  clear hN
  have e1 : (w.alloc (.cells nameArr 22)).heap.size = w.heap.size + 1 := by simp
  have H0 : Hid (Nm w w.heap.size (w.alloc (.cells nameArr 22)).heap.size ((w.alloc (.cells nameArr 22)).alloc (.cells nameArr 3))) := by
    have r2 := heap_alloc_new (w.alloc (.cells nameArr 22)) (.cells nameArr 3)
    have r1 : ((w.alloc (.cells nameArr 22)).alloc (.cells nameArr 3)).heap[w.heap.size]? = some (.cells nameArr 22) := by
      rw [Below.heap_alloc _ _ _ (by simp)]; exact heap_alloc_new w _
    exact Lib.hid ⟨fun k hk => by rw [cell_of_row _ _ _ _ _ _ r1]; exact name_arr ⟨k, hk⟩, fun k hk => by rw [cell_of_row _ _ _ _ _ _ r2]; exact name_arr ⟨k, hk⟩, ((Below.refl _ _).alloc (Nat.le_refl _) _).alloc (by simp) _⟩
  rw [e1] at H0
  clear e1
  generalize (w.alloc (.cells nameArr 22)).alloc (.cells nameArr 3) = y at *
  generalize hq : w.heap.size = q at *
  have HQ := Lib.hid hq
  clear hq
  go_upto_region 4 with (fail)
  go_loopw [9] (fun t y => ∃ k : Nat, k ≤ 28 ∧ t = .int .i64 k ∧ Hid (Nm w q (q + 1) y)) (fun t _ => 28 - (intOf t).toNat)
  case atStart => exact ⟨0, by decide, rfl, H0⟩
  case round =>
    obtain ⟨k, hk, rfl, hp⟩ := hrel
    clear H0
    by_cases hlt : (k : Int) < 28
    · have hk28 : k < 28 := by omega
      have hc1 := hp.out.c1 k hk28
      have hc2 := hp.out.c2 k hk28
      have hz := name_in ⟨k, hk28⟩
      obtain ⟨n, hn⟩ : ∃ n : Nat, nameAt k = n := ⟨(nameAt k).toNat, (Int.toNat_of_nonneg hz.1).symm⟩
      have hn100 : n < 100 := by have h := hz.2; simp only [hn] at h; omega
      rw [hn] at hc1 hc2
      have C1 := Lib.hid (error_small n hn100)
      have C2 := Lib.hid (itoa_small n hn100)
      have hd : (Lib.decDigits n).length ≤ 2 := dec_len ⟨n, hn100⟩
      have hds : (⟨(Lib.decDigits n).toArray⟩ : ByteArray).size ≤ 2 := by show (Lib.decDigits n).toArray.size ≤ 2; simpa using hd
      have hE : (⟨#[69]⟩ : ByteArray) ++ ⟨(Lib.decDigits n).toArray⟩ = eText n := rfl
      generalize eText n = E at *
      generalize (⟨(Lib.decDigits n).toArray⟩ : ByteArray) = D at *
      have hdI : (D.size : Int) ≤ 2 := by omega
      clear hd hds
      have hneq : ∀ u, (binOp .neq 9 (.string E) (.string E)).run Tryd.prog u = .ok (.bool false) u := fun u => by simp [go_sem]
      clear hz hn
      go_upto_region 6 with (fail)
      go_quiet (first
        | ((go_at_call 6; exact Calls.quiet_of_same (swapW (C1.out _))))
        | ((go_at_call 7; exact Calls.quiet_of_same (swapW (C2.out _)))))
      have HN : Hid (Nm w q (q + 1) (wr.drewN nq)) := Lib.hid ⟨hp.out.c1, hp.out.c2, below_drewN hp.out.below nq⟩
      clear hc1 hc2 C1 C2 hE hdI hneq hp
      go_wp2_with fail
      go_roundw
      case rel => exact ⟨k + 1, by omega, by go_num, HN⟩
      case measure => first | (simp [intOf]; done) | (simp [intOf]; omega)
    · go_wp2_with ((go_at_call 8; refine (fixed_true _).mono ?_; rintro e w' ⟨rfl, rfl⟩))
      go_ret
      exact ⟨rfl, hp.out.below⟩
end W1
theorem wordNames_walk {w : World} : Calls Tryd.prog 3 #[] w fun e w' => e = .returned (.bool true) ∧ Below w.heap.size w w' := W1.names_walk w
end Go.Proofs.YtebfecnpkifgeaaDoor
