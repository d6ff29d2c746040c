/-
  mootref03.Value: a number; both Values' contracts. Own work.
-/
import Derived.Test.YthlmjcochpodgaaDoorRg
namespace Go.Proofs.YthlmjcochpodgaaDoor
open Go.ChangeShapes Go.WideShapes Go.Deep Go.RowKit
set_option linter.unusedVariables false
set_option linter.unusedSimpArgs false
namespace Rl
theorem IsB.cellAt {w : World} {a : Option Addr} {n c : Nat} {bs : List Bt} (h : IsB w a n c bs) {j : Nat} (hj : j < n) : ∃ b o, a = some ⟨b, o, none⟩ ∧ w.cell? ⟨b, o + j, none⟩ = some (.int .u8 ((bs.getD j 0#8).toNat : Int)) := by
  obtain ⟨h1, h2, h3, h4, h5⟩ := h
  rcases h5 with h5 | ⟨b, o, e, h6⟩
  · omega
  · refine ⟨b, o, e, ?_⟩
    have := h6 j (bs.getD j 0#8) (by rw [List.getElem?_eq_getElem (by omega), List.getD_eq_getElem?_getD, List.getElem?_eq_getElem (by omega)]; rfl)
    exact this
theorem add_u64 (v x : Nat) (hv : v * 256 ≤ 18446744073709551616 - 256) (hx : x < 256) : IntKind.u64.wrap (IntKind.u64.wrap ((v : Int) * 256) + IntKind.u64.wrap (x : Int)) = ((v * 256 + x : Nat) : Int) := by
  show (((v : Int) * 256) % 18446744073709551616 + (x : Int) % 18446744073709551616) % 18446744073709551616 = _
  omega
set_option maxHeartbeats 2000000 in
set_option maxRecDepth 100000 in
theorem rvalue_ok (w : World) (n c n' c' : Nat) (a a' : Option Addr) (bs : List Bt) (hB : IsB w a n c bs) (h8 : n ≤ 8) (h0 : n = 0 ∨ ∃ b o x, a = some ⟨b, o, none⟩ ∧ 0 < n ∧ x ≠ 0 ∧ w.cell? ⟨b, o, none⟩ = some (.int .u8 ((x : Nat) : Int))) :
    Calls Tryd.prog 23 #[.agg #[.bool false, .slice a n c, .slice a' n' c']] w fun e w' => e = .returned (.tuple #[.int .u64 (num 0 bs), .int .i64 0]) ∧ Below w.heap.size w w' := by
  have HB := Lib.hid hB
  have H8 := Lib.hid h8
  have H0 : Hid (Below w.heap.size w (w.alloc (.cells #[.bool false, .slice a n c, .slice a' n' c'] 25))) := Lib.hid ((Below.refl _ _).alloc (Nat.le_refl _) _)
  have HB1 : Hid (IsB (w.alloc (.cells #[.bool false, .slice a n c, .slice a' n' c'] 25)) a n c bs) := Lib.hid (hB.keep (keep_below H0.out))
  have hd8 : decide ((8 : Int) < (n : Int)) = false := by simp; omega
  clear hB h8
  go_enter Tryd.func23, Tryd.ntmps23
  rcases h0 with h0 | ⟨b, o, x, rfl, hn0, hx, hc⟩
  · subst h0
    have hnil : Hid (bs = []) := Lib.hid (List.eq_nil_of_length_eq_zero HB.out.1.symm)
    go_wp2_with (fail)
    go_loopw [4, 5] (fun t i y => t = .int .u64 0 ∧ i = .int .i64 0 ∧ y = w.alloc (.cells #[.bool false, .slice a 0 c, .slice a' n' c'] 25)) (fun _ _ _ => 0)
    case atStart => exact ⟨rfl, rfl, rfl⟩
    case round =>
      obtain ⟨rfl, rfl, rfl⟩ := hrel
      go_wp2_with (fail)
      go_ret2
      exact ⟨by rw [hnil.out]; rfl, H0.out⟩
  · have hc2 := keep_below H0.out _ _ hc
    have h2 : (0 : Int) < (n : Int) := by omega
    have h3 : ((x : Int) == 0) = false := by
      have : ¬ (x : Int) = 0 := by omega
      simpa using this
    clear hx hc hn0
    go_wp2_with (fail)
    clear hc2 h2 h3 hd8
    have g1 : (w.alloc (.cells #[.bool false, .slice (some ⟨b, o, none⟩) n c, .slice a' n' c'] 25)).cell? ⟨w.heap.size, 1, none⟩ = some (.slice (some ⟨b, o, none⟩) n c) := by simp
    generalize (w.alloc (.cells #[.bool false, .slice (some ⟨b, o, none⟩) n c, .slice a' n' c'] 25)) = Y at *
    go_loopw [4, 5] (fun t i y => ∃ j : Nat, j ≤ n ∧ i = .int .i64 j ∧ t = .int .u64 (num 0 (bs.take j)) ∧ y = Y) (fun _ i _ => n - (intOf i).toNat)
    case atStart => exact ⟨0, Nat.zero_le _, rfl, rfl, rfl⟩
    case round =>
      obtain ⟨j, hj, rfl, rfl, rfl⟩ := hrel
      by_cases hlt : (j : Int) < (n : Int)
      · obtain ⟨b2, o2, he, hcell⟩ := HB1.out.cellAt (show j < n by omega)
        injection he with he
        injection he with he1 he2
        subst he1 he2
        generalize hx : (bs.getD j 0#8).toNat = X at *
        generalize hv : num 0 (bs.take j) = Vn at *
        have HJ := Lib.hid (show j < n ∧ wrap64 ((j : Int) + 1) = ((j + 1 : Nat) : Int) by
          refine ⟨by omega, ?_⟩
          have := H8.out; unfold wrap64; omega)
        have HO := Lib.hid (show IntKind.u64.wrap (IntKind.u64.wrap ((Vn : Int) * 256) + IntKind.u64.wrap (X : Int)) = (num 0 (bs.take (j + 1)) : Int) by
          rw [num_take bs j (by have := HB1.out.1; omega), hx, hv]
          refine add_u64 Vn X ?_ ?_
          · rw [← hv]
            have h1 := num_bound (bs.take j) 0
            have h2 : (bs.take j).length ≤ 7 := by have := H8.out; simp; omega
            have h3 : 256 ^ (bs.take j).length ≤ 256 ^ 7 := Nat.pow_le_pow_right (by decide) h2
            have h4 : (256 : Nat) ^ 7 = 72057594037927936 := rfl
            omega
          · rw [← hx]; exact BitVec.isLt _)
        clear hj hx hv
        go_wp2_with (fail)
        go_roundw

        case rel => exact ⟨j + 1, HJ.out.1, by rw [HJ.out.2], by rw [HO.out], trivial⟩
        case measure => rw [HJ.out.2]; have := HJ.out.1; simp [intOf]; omega
      · go_wp2_with (fail)
        go_ret2
        have e : j = n := by omega
        refine ⟨?_, H0.out⟩
        rw [e, HB1.out.1, List.take_length]
        rfl
/-- Both answer alike. -/
theorem value_walk (w : World) (l : Bool) (n c n' c' : Nat) (a a' : Option Addr) (bs : List Bt) (hB : IsB w a n c bs) :
    (Calls Tryd.prog 22 #[.agg #[.bool l, .slice a n c, .slice a' n' c']] w fun e w' => e = .returned (.tuple #[.int .u64 (if valW l bs = 0 then num 0 bs else 0 : Nat), if valW l bs = 0 then .nilIface else eN (valW l bs)]) ∧ Below w.heap.size w w') ∧
    Calls Tryd.prog 23 #[.agg #[.bool l, .slice a n c, .slice a' n' c']] w fun e w' => e = .returned (.tuple #[.int .u64 (if valW l bs = 0 then num 0 bs else 0 : Nat), .int .i64 (valW l bs)]) ∧ Below w.heap.size w w' := by
  have hl := hB.1
  cases l with
  | true => exact ⟨value_list w true n c n' c' a a', rvalue_list w true n c n' c' a a'⟩
  | false =>
    by_cases h8 : 8 < n
    · have e : valW false bs = 12 := by unfold valW; rw [if_neg (by decide), if_pos (.inl (by omega))]
      rw [e]
      exact ⟨value_long w true n c n' c' a a' h8, rvalue_long w true n c n' c' a a' h8⟩
    · match bs, hl with
      | [], hl =>
        have e : valW false [] = 0 := by decide
        rw [e]
        exact ⟨value_none w true n c n' c' a a' [] hB (by omega) hl, rvalue_ok w n c n' c' a a' [] hB (by omega) (.inl hl)⟩
      | x :: r, hl =>
        obtain ⟨b, o, ha, hc⟩ := hB.cellAt (j := 0) (by rw [hl]; simp)
        have hc : w.cell? ⟨b, o, none⟩ = some (.int .u8 ((x.toNat : Nat) : Int)) := hc
        have hn : 0 < n := by rw [hl]; simp
        by_cases hx : x.toNat = 0
        · have e : valW false (x :: r) = 12 := by
            have : x = 0#8 := BitVec.eq_of_toNat_eq (by simpa using hx)
            unfold valW; rw [if_neg (by decide), if_pos (.inr (by rw [this]; rfl))]
          rw [e]
          rw [hx] at hc
          exact ⟨value_zero w true n c n' c' a a' b o ha hn (by omega) hc, rvalue_zero w true n c n' c' a a' b o ha hn (by omega) hc⟩
        · have e : valW false (x :: r) = 0 := by
            unfold valW; rw [if_neg (by decide), if_neg]
            rintro (h | h)
            · omega
            · injection h with h; rw [h] at hx; exact hx rfl
          rw [e]
          exact ⟨value_some w true n c n' c' a a' (x :: r) hB b o ha hn (by omega) x.toNat hx hc, rvalue_ok w n c n' c' a a' (x :: r) hB (by omega) (.inr ⟨b, o, x.toNat, ha, hn, hx, hc⟩)⟩
end Rl
end Go.Proofs.YthlmjcochpodgaaDoor
