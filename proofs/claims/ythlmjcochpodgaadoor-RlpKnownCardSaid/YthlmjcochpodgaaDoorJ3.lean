/- RLP: merged. Own work. -/
import Derived.Test.YthlmjcochpodgaaDoorJ2
import Derived.Test.YthlmjcochpodgaaDoorJ1
namespace Go.Proofs.YthlmjcochpodgaaDoor
open Go.ChangeShapes Go.WideShapes Go.Deep Go.RowKit
set_option linter.unusedVariables false
set_option linter.unusedSimpArgs false
namespace Rl
/-- What Value's way is: 3 (a list), 12 (no number), 0. -/
def valW (l : Bool) (bs : List Bt) : Int := if l then 3 else if 8 < bs.length ∨ bs.head? = some 0#8 then 12 else 0
set_option maxHeartbeats 2000000 in
set_option maxRecDepth 100000 in
theorem value_list (w : World) (l : Bool) (n c n' c' : Nat) (a a' : Option Addr)  :
    Calls Tryd.prog 22 #[.agg #[.bool true, .slice a n c, .slice a' n' c']] w fun e w' => e = .returned (.tuple #[.int .u64 0, eN 3]) ∧ Below w.heap.size w w' := by
  go_enter Tryd.func22, Tryd.ntmps22
  go_wp2_with (fail)
  go_ret2
  exact ⟨rfl, (Below.refl _ _).alloc (Nat.le_refl _) _⟩
set_option maxHeartbeats 2000000 in
set_option maxRecDepth 100000 in
theorem value_long (w : World) (l : Bool) (n c n' c' : Nat) (a a' : Option Addr) (h : 8 < n) :
    Calls Tryd.prog 22 #[.agg #[.bool false, .slice a n c, .slice a' n' c']] w fun e w' => e = .returned (.tuple #[.int .u64 0, eN 12]) ∧ Below w.heap.size w w' := by
  have h1 : (8 : Int) < (n : Int) := by omega
  clear h
  go_enter Tryd.func22, Tryd.ntmps22
  go_wp2_with (fail)
  go_ret2
  exact ⟨rfl, (Below.refl _ _).alloc (Nat.le_refl _) _⟩
set_option maxHeartbeats 2000000 in
set_option maxRecDepth 100000 in
theorem value_zero (w : World) (l : Bool) (n c n' c' : Nat) (a a' : Option Addr) (b o : Nat) (ha : a = some ⟨b, o, none⟩) (h0 : 0 < n) (h8 : n ≤ 8) (hc : w.cell? ⟨b, o, none⟩ = some (.int .u8 0)) :
    Calls Tryd.prog 22 #[.agg #[.bool false, .slice a n c, .slice a' n' c']] w fun e w' => e = .returned (.tuple #[.int .u64 0, eN 12]) ∧ Below w.heap.size w w' := by
  subst ha
  have h1 : decide ((8 : Int) < (n : Int)) = false := by simp; omega
  have h2 : (0 : Int) < (n : Int) := by omega
  have hc2 := keep1 ((Below.refl w.heap.size w).alloc (Nat.le_refl _) (.cells #[.bool false, .slice (some ⟨b, o, none⟩) n c, .slice a' n' c'] 25)) hc
  clear h0 h8 hc
  go_enter Tryd.func22, Tryd.ntmps22
  go_wp2_with (fail)
  go_ret2
  exact ⟨rfl, (Below.refl _ _).alloc (Nat.le_refl _) _⟩
set_option maxHeartbeats 2000000 in
set_option maxRecDepth 100000 in
theorem value_none (w : World) (l : Bool) (n c n' c' : Nat) (a a' : Option Addr) (bs : List Bt) (hB : IsB w a n c bs) (h8 : n ≤ 8) (hn : n = 0) :
    Calls Tryd.prog 22 #[.agg #[.bool false, .slice a n c, .slice a' n' c']] w fun e w' => e = .returned (.tuple #[.int .u64 (num 0 bs), .nilIface]) ∧ Below w.heap.size w w' := by
  subst hn
  have HN := Lib.hid (number_walk (w.alloc (.cells #[.bool false, .slice a 0 c, .slice a' n' c'] 25)) a 0 c bs (hB.keep (keep_below ((Below.refl w.heap.size w).alloc (Nat.le_refl _) (.cells #[.bool false, .slice a 0 c, .slice a' n' c'] 25)))) h8)
  clear hB h8
  go_enter Tryd.func22, Tryd.ntmps22
  go_wp2_with (go_at_call 40; (with_reducible refine HN.out.mono ?_); rintro e y1 ⟨rfl, rfl⟩)
  go_ret2
  exact ⟨rfl, (Below.refl _ _).alloc (Nat.le_refl _) _⟩
set_option maxHeartbeats 2000000 in
set_option maxRecDepth 100000 in
theorem value_some (w : World) (l : Bool) (n c n' c' : Nat) (a a' : Option Addr) (bs : List Bt) (hB : IsB w a n c bs) (b o : Nat) (ha : a = some ⟨b, o, none⟩) (h0 : 0 < n) (h8 : n ≤ 8) (x : Nat) (hx : x ≠ 0) (hc : w.cell? ⟨b, o, none⟩ = some (.int .u8 x)) :
    Calls Tryd.prog 22 #[.agg #[.bool false, .slice a n c, .slice a' n' c']] w fun e w' => e = .returned (.tuple #[.int .u64 (num 0 bs), .nilIface]) ∧ Below w.heap.size w w' := by
  subst ha
  have h1 : decide ((8 : Int) < (n : Int)) = false := by simp; omega
  have h2 : (0 : Int) < (n : Int) := by omega
  have h3 : ((x : Int) == 0) = false := by
    have : ¬ (x : Int) = 0 := by omega
    simpa using this
  have hc2 := keep1 ((Below.refl w.heap.size w).alloc (Nat.le_refl _) (.cells #[.bool false, .slice (some ⟨b, o, none⟩) n c, .slice a' n' c'] 25)) hc
  have HN := Lib.hid (number_walk (w.alloc (.cells #[.bool false, .slice (some ⟨b, o, none⟩) n c, .slice a' n' c'] 25)) (some ⟨b, o, none⟩) n c bs (hB.keep (keep_below ((Below.refl w.heap.size w).alloc (Nat.le_refl _) (.cells #[.bool false, .slice (some ⟨b, o, none⟩) n c, .slice a' n' c'] 25)))) h8)
  clear hB h0 h8 hc hx
  go_enter Tryd.func22, Tryd.ntmps22
  go_wp2_with (go_at_call 40; (with_reducible refine HN.out.mono ?_); rintro e y1 ⟨rfl, rfl⟩)
  go_ret2
  exact ⟨rfl, (Below.refl _ _).alloc (Nat.le_refl _) _⟩
set_option maxHeartbeats 2000000 in
set_option maxRecDepth 100000 in
theorem rvalue_list (w : World) (l : Bool) (n c n' c' : Nat) (a a' : Option Addr)  :
    Calls Tryd.prog 23 #[.agg #[.bool true, .slice a n c, .slice a' n' c']] w fun e w' => e = .returned (.tuple #[.int .u64 0, .int .i64 3]) ∧ Below w.heap.size w w' := by
  go_enter Tryd.func23, Tryd.ntmps23
  go_wp2_with (fail)
  go_ret2
  exact ⟨rfl, (Below.refl _ _).alloc (Nat.le_refl _) _⟩
set_option maxHeartbeats 2000000 in
set_option maxRecDepth 100000 in
theorem rvalue_long (w : World) (l : Bool) (n c n' c' : Nat) (a a' : Option Addr) (h : 8 < n) :
    Calls Tryd.prog 23 #[.agg #[.bool false, .slice a n c, .slice a' n' c']] w fun e w' => e = .returned (.tuple #[.int .u64 0, .int .i64 12]) ∧ Below w.heap.size w w' := by
  have h1 : (8 : Int) < (n : Int) := by omega
  clear h
  go_enter Tryd.func23, Tryd.ntmps23
  go_wp2_with (fail)
  go_ret2
  exact ⟨rfl, (Below.refl _ _).alloc (Nat.le_refl _) _⟩
set_option maxHeartbeats 2000000 in
set_option maxRecDepth 100000 in
theorem rvalue_zero (w : World) (l : Bool) (n c n' c' : Nat) (a a' : Option Addr) (b o : Nat) (ha : a = some ⟨b, o, none⟩) (h0 : 0 < n) (h8 : n ≤ 8) (hc : w.cell? ⟨b, o, none⟩ = some (.int .u8 0)) :
    Calls Tryd.prog 23 #[.agg #[.bool false, .slice a n c, .slice a' n' c']] w fun e w' => e = .returned (.tuple #[.int .u64 0, .int .i64 12]) ∧ Below w.heap.size w w' := by
  subst ha
  have h1 : decide ((8 : Int) < (n : Int)) = false := by simp; omega
  have h2 : (0 : Int) < (n : Int) := by omega
  have hc2 := keep1 ((Below.refl w.heap.size w).alloc (Nat.le_refl _) (.cells #[.bool false, .slice (some ⟨b, o, none⟩) n c, .slice a' n' c'] 25)) hc
  clear h0 h8 hc
  go_enter Tryd.func23, Tryd.ntmps23
  go_wp2_with (fail)
  go_ret2
  exact ⟨rfl, (Below.refl _ _).alloc (Nat.le_refl _) _⟩
end Rl
end Go.Proofs.YthlmjcochpodgaaDoor
namespace Go.Proofs.YthlmjcochpodgaaDoor
open Go.ChangeShapes Go.WideShapes Go.Deep Go.RowKit
set_option linter.unusedVariables false
set_option linter.unusedSimpArgs false
namespace Rl
theorem IsB.cellAt {w : World} {a : Option Addr} {n c : Nat} {bs : List Bt} (h : IsB w a n c bs) {j : Nat} (hj : j < n) : ∃ b o, a = some ⟨b, o, none⟩ ∧ w.cell? ⟨b, o + j, none⟩ = some (.int .u8 ((bs.getD j 0#8).toNat : Int)) := by
  obtain ⟨h1, h2, h3, h4, h5⟩ := h
  rcases h5 with h5 | ⟨b, o, e, h6⟩
  · omega
  · refine ⟨b, o, e, ?_⟩
    have := h6 j (bs.getD j 0#8) (by rw [List.getElem?_eq_getElem (by omega), List.getD_eq_getElem?_getD, List.getElem?_eq_getElem (by omega)]; rfl)
    exact this
theorem add_u64 (v x : Nat) (hv : v * 256 ≤ 18446744073709551616 - 256) (hx : x < 256) : IntKind.u64.wrap (IntKind.u64.wrap ((v : Int) * 256) + IntKind.u64.wrap (x : Int)) = ((v * 256 + x : Nat) : Int) := by
  show (((v : Int) * 256) % 18446744073709551616 + (x : Int) % 18446744073709551616) % 18446744073709551616 = _
  omega
set_option maxHeartbeats 2000000 in
set_option maxRecDepth 100000 in
theorem rvalue_ok (w : World) (n c n' c' : Nat) (a a' : Option Addr) (bs : List Bt) (hB : IsB w a n c bs) (h8 : n ≤ 8) (h0 : n = 0 ∨ ∃ b o x, a = some ⟨b, o, none⟩ ∧ 0 < n ∧ x ≠ 0 ∧ w.cell? ⟨b, o, none⟩ = some (.int .u8 ((x : Nat) : Int))) :
    Calls Tryd.prog 23 #[.agg #[.bool false, .slice a n c, .slice a' n' c']] w fun e w' => e = .returned (.tuple #[.int .u64 (num 0 bs), .int .i64 0]) ∧ Below w.heap.size w w' := by
  have HB := Lib.hid hB
  have H8 := Lib.hid h8
  have H0 : Hid (Below w.heap.size w (w.alloc (.cells #[.bool false, .slice a n c, .slice a' n' c'] 25))) := Lib.hid ((Below.refl _ _).alloc (Nat.le_refl _) _)
  have HB1 : Hid (IsB (w.alloc (.cells #[.bool false, .slice a n c, .slice a' n' c'] 25)) a n c bs) := Lib.hid (hB.keep (keep_below H0.out))
  have hd8 : decide ((8 : Int) < (n : Int)) = false := by simp; omega
  clear hB h8
  go_enter Tryd.func23, Tryd.ntmps23
  rcases h0 with h0 | ⟨b, o, x, rfl, hn0, hx, hc⟩
  · subst h0
    have hnil : Hid (bs = []) := Lib.hid (List.eq_nil_of_length_eq_zero HB.out.1.symm)
    go_wp2_with (fail)
    go_loopw [4, 5] (fun t i y => t = .int .u64 0 ∧ i = .int .i64 0 ∧ y = w.alloc (.cells #[.bool false, .slice a 0 c, .slice a' n' c'] 25)) (fun _ _ _ => 0)
    case atStart => exact ⟨rfl, rfl, rfl⟩
    case round =>
      obtain ⟨rfl, rfl, rfl⟩ := hrel
      go_wp2_with (fail)
      go_ret2
      exact ⟨by rw [hnil.out]; rfl, H0.out⟩
  · have hc2 := keep_below H0.out _ _ hc
    have h2 : (0 : Int) < (n : Int) := by omega
    have h3 : ((x : Int) == 0) = false := by
      have : ¬ (x : Int) = 0 := by omega
      simpa using this
    clear hx hc hn0
    go_wp2_with (fail)
    clear hc2 h2 h3 hd8
    have g1 : (w.alloc (.cells #[.bool false, .slice (some ⟨b, o, none⟩) n c, .slice a' n' c'] 25)).cell? ⟨w.heap.size, 1, none⟩ = some (.slice (some ⟨b, o, none⟩) n c) := by simp
    generalize (w.alloc (.cells #[.bool false, .slice (some ⟨b, o, none⟩) n c, .slice a' n' c'] 25)) = Y at *
    go_loopw [4, 5] (fun t i y => ∃ j : Nat, j ≤ n ∧ i = .int .i64 j ∧ t = .int .u64 (num 0 (bs.take j)) ∧ y = Y) (fun _ i _ => n - (intOf i).toNat)
    case atStart => exact ⟨0, Nat.zero_le _, rfl, rfl, rfl⟩
    case round =>
      obtain ⟨j, hj, rfl, rfl, rfl⟩ := hrel
      by_cases hlt : (j : Int) < (n : Int)
      · obtain ⟨b2, o2, he, hcell⟩ := HB1.out.cellAt (show j < n by omega)
        injection he with he
        injection he with he1 he2
        subst he1 he2
        generalize hx : (bs.getD j 0#8).toNat = X at *
        generalize hv : num 0 (bs.take j) = Vn at *
        have HJ := Lib.hid (show j < n ∧ wrap64 ((j : Int) + 1) = ((j + 1 : Nat) : Int) by
          refine ⟨by omega, ?_⟩
          have := H8.out; unfold wrap64; omega)
        have HO := Lib.hid (show IntKind.u64.wrap (IntKind.u64.wrap ((Vn : Int) * 256) + IntKind.u64.wrap (X : Int)) = (num 0 (bs.take (j + 1)) : Int) by
          rw [num_take bs j (by have := HB1.out.1; omega), hx, hv]
          refine add_u64 Vn X ?_ ?_
          · rw [← hv]
            have h1 := num_bound (bs.take j) 0
            have h2 : (bs.take j).length ≤ 7 := by have := H8.out; simp; omega
            have h3 : 256 ^ (bs.take j).length ≤ 256 ^ 7 := Nat.pow_le_pow_right (by decide) h2
            have h4 : (256 : Nat) ^ 7 = 72057594037927936 := rfl
            omega
          · rw [← hx]; exact BitVec.isLt _)
        clear hj hx hv
        go_wp2_with (fail)
        go_roundw

        case rel => exact ⟨j + 1, HJ.out.1, by rw [HJ.out.2], by rw [HO.out], trivial⟩
        case measure => rw [HJ.out.2]; have := HJ.out.1; simp [intOf]; omega
      · go_wp2_with (fail)
        go_ret2
        have e : j = n := by omega
        refine ⟨?_, H0.out⟩
        rw [e, HB1.out.1, List.take_length]
        rfl
/-- Both answer alike. -/
theorem value_walk (w : World) (l : Bool) (n c n' c' : Nat) (a a' : Option Addr) (bs : List Bt) (hB : IsB w a n c bs) :
    (Calls Tryd.prog 22 #[.agg #[.bool l, .slice a n c, .slice a' n' c']] w fun e w' => e = .returned (.tuple #[.int .u64 (if valW l bs = 0 then num 0 bs else 0 : Nat), if valW l bs = 0 then .nilIface else eN (valW l bs)]) ∧ Below w.heap.size w w') ∧
    Calls Tryd.prog 23 #[.agg #[.bool l, .slice a n c, .slice a' n' c']] w fun e w' => e = .returned (.tuple #[.int .u64 (if valW l bs = 0 then num 0 bs else 0 : Nat), .int .i64 (valW l bs)]) ∧ Below w.heap.size w w' := by
  have hl := hB.1
  cases l with
  | true => exact ⟨value_list w true n c n' c' a a', rvalue_list w true n c n' c' a a'⟩
  | false =>
    by_cases h8 : 8 < n
    · have e : valW false bs = 12 := by unfold valW; rw [if_neg (by decide), if_pos (.inl (by omega))]
      rw [e]
      exact ⟨value_long w true n c n' c' a a' h8, rvalue_long w true n c n' c' a a' h8⟩
    · match bs, hl with
      | [], hl =>
        have e : valW false [] = 0 := by decide
        rw [e]
        exact ⟨value_none w true n c n' c' a a' [] hB (by omega) hl, rvalue_ok w n c n' c' a a' [] hB (by omega) (.inl hl)⟩
      | x :: r, hl =>
        obtain ⟨b, o, ha, hc⟩ := hB.cellAt (j := 0) (by rw [hl]; simp)
        have hc : w.cell? ⟨b, o, none⟩ = some (.int .u8 ((x.toNat : Nat) : Int)) := hc
        have hn : 0 < n := by rw [hl]; simp
        by_cases hx : x.toNat = 0
        · have e : valW false (x :: r) = 12 := by
            have : x = 0#8 := BitVec.eq_of_toNat_eq (by simpa using hx)
            unfold valW; rw [if_neg (by decide), if_pos (.inr (by rw [this]; rfl))]
          rw [e]
          rw [hx] at hc
          exact ⟨value_zero w true n c n' c' a a' b o ha hn (by omega) hc, rvalue_zero w true n c n' c' a a' b o ha hn (by omega) hc⟩
        · have e : valW false (x :: r) = 0 := by
            unfold valW; rw [if_neg (by decide), if_neg]
            rintro (h | h)
            · omega
            · injection h with h; rw [h] at hx; exact hx rfl
          rw [e]
          exact ⟨value_some w true n c n' c' a a' (x :: r) hB b o ha hn (by omega) x.toNat hx hc, rvalue_ok w n c n' c' a a' (x :: r) hB (by omega) (.inr ⟨b, o, x.toNat, ha, hn, hx, hc⟩)⟩
end Rl
end Go.Proofs.YthlmjcochpodgaaDoor
namespace Go.Proofs.YthlmjcochpodgaaDoor
open Go.ChangeShapes Go.WideShapes Go.Deep Go.RowKit
set_option linter.unusedVariables false
set_option linter.unusedSimpArgs false
namespace Rl
set_option maxHeartbeats 1000000 in
set_option maxRecDepth 100000 in
theorem rdeep_zero (w : World) (l : Bool) (n c n' c' : Nat) (a a' : Option Addr) :
    Calls Tryd.prog 34 #[.agg #[.bool l, .slice a n c, .slice a' n' c'], .int .i64 0] w fun e w' => e = .returned (.bool true) ∧ Below w.heap.size w w' := by
  go_enter Tryd.func34, Tryd.ntmps34
  go_wp2_with (fail)
  go_ret
  exact ⟨rfl, (Below.refl _ _).alloc (Nat.le_refl _) _⟩
set_option maxHeartbeats 2000000 in
set_option maxRecDepth 100000 in
theorem rdeep_step (m : Nat) (hm : m < 100) (ih : ∀ (w : World) (l : Bool) (n c n' c' : Nat) (a a' : Option Addr) (k : Fo), IsK w a' n' c' k → Calls Tryd.prog 34 #[.agg #[.bool l, .slice a n c, .slice a' n' c'], .int .i64 m] w fun e w' => e = .returned (.bool (dp k m)) ∧ Below w.heap.size w w')
    (w : World) (l : Bool) (n c n' c' : Nat) (a a' : Option Addr) (k : Fo) (hk : IsK w a' n' c' k) :
    Calls Tryd.prog 34 #[.agg #[.bool l, .slice a n c, .slice a' n' c'], .int .i64 (m + 1 : Nat)] w fun e w' => e = .returned (.bool (dp k (m + 1))) ∧ Below w.heap.size w w' := by
  have HK := Lib.hid hk
  clear hk
  have hne : ((m : Int) + 1 == 0) = false := by
    have : ¬ (m : Int) + 1 = 0 := by omega
    simpa using this
  rw [show ((m + 1 : Nat) : Int) = (m : Int) + 1 from rfl]
  go_enter Tryd.func34, Tryd.ntmps34
  go_wp2_with (fail)
  have HB : Hid (Below w.heap.size w (w.alloc (.cells #[.bool l, .slice a n c, .slice a' n' c'] 25)) ∧ (w.alloc (.cells #[.bool l, .slice a n c, .slice a' n' c'] 25)).cell? ⟨w.heap.size, 2, none⟩ = some (.slice a' n' c')) := Lib.hid ⟨(Below.refl _ _).alloc (Nat.le_refl _) _, by simp⟩
  generalize w.alloc (.cells #[.bool l, .slice a n c, .slice a' n' c'] 25) = y0 at *
  have HN : Hid (n' ≤ maxLen) := Lib.hid (by have := HK.out; exact Nat.le_trans this.2.1 this.2.2.1)
  go_loopw [5] (fun i y => ∃ j : Nat, j ≤ n' ∧ i = .int .i64 j ∧ Hid (k.deep m = (k.drop j).deep m ∧ Below w.heap.size w y ∧ y.cell? ⟨w.heap.size, 2, none⟩ = some (.slice a' n' c'))) (fun i _ => n' - (intOf i).toNat)
  case atStart => exact ⟨0, Nat.zero_le _, rfl, Lib.hid ⟨by rw [Fo.drop_zero], HB.out.1, HB.out.2⟩⟩
  case round =>
    obtain ⟨j, hj, rfl, hp⟩ := hrel
    clear HB
    have gb := hp.out.2.2
    by_cases hlt : (j : Int) < (n' : Int)
    · obtain ⟨b, o, l1, bs, k1, a1, n1, c1, a2, n2, c2, rfl, hd, hb1, hk1, g0, g1, g2⟩ := (HK.out.keep (keep_below hp.out.2.1)).at (show j < n' by omega)
      have HD := Lib.hid hd
      have HS := Lib.hid hp.out.2.1
      have HC := Lib.hid (ih wr l1 n1 c1 n2 c2 a1 a2 k1 hk1)
      have HE := Lib.hid hp.out.1
      have HJ := Lib.hid (show j < n' ∧ wrap64 ((j : Int) + 1) = ((j + 1 : Nat) : Int) by refine ⟨by omega, ?_⟩; have := HN.out; simp only [maxLen] at this; unfold wrap64; omega)
      have HW := Lib.hid (show wrap64 (m : Int) = m by unfold wrap64; omega)
      clear hk1 ih hp hm hj hd hb1
      generalize hdp : dp k1 m = D at *
      have HDP := Lib.hid hdp
      clear hdp
      go_wp2_with (go_at_call 34; rw [HW.out]; (with_reducible refine HC.out.mono ?_); rintro e y1 ⟨rfl, hb⟩; have H1 := Lib.hid (And.intro (bl HS.out hb) (keep1 hb gb)); clear hb HC g0 g1 g2 gb HS hlt)
      · go_ret
        refine ⟨?_, H1.out.1⟩
        show Ending.returned (.bool true) = .returned (.bool (k.deep m))
        rw [HE.out, HD.out]
        show Ending.returned (.bool true) = .returned (.bool (dp k1 m || (k.drop (j + 1)).deep m))
        rw [HDP.out, ‹D = true›]; rfl
      · go_roundw
        case rel => exact ⟨j + 1, HJ.out.1, by rw [HJ.out.2], Lib.hid ⟨by rw [HE.out, HD.out]; show (dp k1 m || (k.drop (j + 1)).deep m) = _; rw [HDP.out, ‹D = false›]; rfl, H1.out.1, H1.out.2⟩⟩
        case measure => rw [HJ.out.2]; have := HJ.out.1; simp [intOf]; omega
    · go_wp2_with (fail)
      go_ret
      refine ⟨?_, hp.out.2.1⟩
      show Ending.returned (.bool false) = .returned (.bool (k.deep m))
      rw [hp.out.1, Fo.drop_end (by have := HK.out.1; omega)]; rfl
theorem rdeep_walk : ∀ (m : Nat), m ≤ 100 → ∀ (w : World) (l : Bool) (n c n' c' : Nat) (a a' : Option Addr) (k : Fo), IsK w a' n' c' k →
    Calls Tryd.prog 34 #[.agg #[.bool l, .slice a n c, .slice a' n' c'], .int .i64 m] w fun e w' => e = .returned (.bool (dp k m)) ∧ Below w.heap.size w w' := by
  intro m
  induction m with
  | zero => intro _ w l n c n' c' a a' k _; exact rdeep_zero w l n c n' c' a a'
  | succ m ih => intro hm w l n c n' c' a a' k hk; exact rdeep_step m (by omega) (ih (by omega)) w l n c n' c' a a' k hk
set_option maxHeartbeats 1000000 in
set_option maxRecDepth 100000 in
theorem rright_no (w : World) (l : Bool) (n c n' c' : Nat) (a a' : Option Addr) (h : if l then (0 : Int) < n else (0 : Int) < n') :
    Calls Tryd.prog 35 #[.agg #[.bool l, .slice a n c, .slice a' n' c']] w fun e w' => e = .returned (.bool false) ∧ Below w.heap.size w w' := by
  cases l with
  | true =>
    have h1 : (0 : Int) < n := h
    clear h
    go_enter Tryd.func35, Tryd.ntmps35
    go_wp2_with (fail)
    go_ret
    exact ⟨rfl, (Below.refl _ _).alloc (Nat.le_refl _) _⟩
  | false =>
    have h1 : (0 : Int) < n' := h
    clear h
    go_enter Tryd.func35, Tryd.ntmps35
    go_wp2_with (fail)
    go_ret
    exact ⟨rfl, (Below.refl _ _).alloc (Nat.le_refl _) _⟩
set_option maxHeartbeats 2000000 in
set_option maxRecDepth 100000 in
theorem rright_list (w : World) (c n' c' : Nat) (a a' : Option Addr) (k : Fo) (hk : IsK w a' n' c' k) (hw : whole true 0 k = k.right)
    (ih : ∀ (w : World) (l : Bool) (n c n' c' : Nat) (a a' : Option Addr) (k1 : Fo), k1.size < k.size → IsK w a' n' c' k1 → Calls Tryd.prog 35 #[.agg #[.bool l, .slice a n c, .slice a' n' c']] w fun e w' => e = .returned (.bool (whole l n k1)) ∧ Below w.heap.size w w') :
    Calls Tryd.prog 35 #[.agg #[.bool true, .slice a 0 c, .slice a' n' c']] w fun e w' => e = .returned (.bool k.right) ∧ Below w.heap.size w w' := by
  have HK := Lib.hid hk
  have HI := Lib.hid ih
  clear hk ih hw
  have HB : Hid (Below w.heap.size w (w.alloc (.cells #[.bool true, .slice a 0 c, .slice a' n' c'] 25)) ∧ (w.alloc (.cells #[.bool true, .slice a 0 c, .slice a' n' c'] 25)).cell? ⟨w.heap.size, 2, none⟩ = some (.slice a' n' c')) := Lib.hid ⟨(Below.refl _ _).alloc (Nat.le_refl _) _, by simp⟩
  have HN : Hid (n' ≤ maxLen) := Lib.hid (by have := HK.out; exact Nat.le_trans this.2.1 this.2.2.1)
  go_enter Tryd.func35, Tryd.ntmps35
  go_wp2_with (fail)
  generalize w.alloc (.cells #[.bool true, .slice a 0 c, .slice a' n' c'] 25) = y0 at *
  go_loopw [3] (fun i y => ∃ j : Nat, j ≤ n' ∧ i = .int .i64 j ∧ Hid (k.right = (k.drop j).right ∧ Below w.heap.size w y ∧ y.cell? ⟨w.heap.size, 2, none⟩ = some (.slice a' n' c'))) (fun i _ => n' - (intOf i).toNat)
  case atStart => exact ⟨0, Nat.zero_le _, rfl, Lib.hid ⟨by rw [Fo.drop_zero], HB.out.1, HB.out.2⟩⟩
  case round =>
    obtain ⟨j, hj, rfl, hp⟩ := hrel
    clear HB
    have gb := hp.out.2.2
    by_cases hlt : (j : Int) < (n' : Int)
    · obtain ⟨b, o, l1, bs, k1, a1, n1, c1, a2, n2, c2, rfl, hd, hb1, hk1, g0, g1, g2⟩ := (HK.out.keep (keep_below hp.out.2.1)).at (show j < n' by omega)
      have HD := Lib.hid hd
      have HS := Lib.hid hp.out.2.1
      have HC := Lib.hid (HI.out wr l1 n1 c1 n2 c2 a1 a2 k1 (Fo.drop_kid hd) hk1)
      have HE := Lib.hid hp.out.1
      have HJ := Lib.hid (show j < n' ∧ wrap64 ((j : Int) + 1) = ((j + 1 : Nat) : Int) by refine ⟨by omega, ?_⟩; have := HN.out; simp only [maxLen] at this; unfold wrap64; omega)
      have HNb := Lib.hid hb1.1
      clear hd hb1 hk1 hp hj
      generalize hdp : whole l1 n1 k1 = D at *
      have HDP := Lib.hid hdp
      clear hdp
      go_wp2_with (go_at_call 35; (with_reducible refine HC.out.mono ?_); rintro e y1 ⟨rfl, hb⟩; have H1 := Lib.hid (And.intro (bl HS.out hb) (keep1 hb gb)); clear hb HC g0 g1 g2 gb HS hlt)
      · go_ret
        refine ⟨?_, H1.out.1⟩
        rw [HE.out, HD.out, whole_right, ← HNb.out, HDP.out, show D = false by simpa using ‹(!D) = true›]; rfl
      · go_roundw
        case rel => exact ⟨j + 1, HJ.out.1, by rw [HJ.out.2], Lib.hid ⟨by rw [HE.out, HD.out, whole_right, ← HNb.out, HDP.out, show D = true by simpa using ‹(!D) = false›]; rfl, H1.out.1, H1.out.2⟩⟩
        case measure => rw [HJ.out.2]; have := HJ.out.1; simp [intOf]; omega
    · go_wp2_with (fail)
      go_ret
      refine ⟨?_, hp.out.2.1⟩
      rw [hp.out.1, Fo.drop_end (by have := HK.out.1; omega)]; rfl
set_option maxHeartbeats 1000000 in
set_option maxRecDepth 100000 in
theorem rright_text (w : World) (n c c' : Nat) (a a' : Option Addr) :
    Calls Tryd.prog 35 #[.agg #[.bool false, .slice a n c, .slice a' 0 c']] w fun e w' => e = .returned (.bool true) ∧ Below w.heap.size w w' := by
  go_enter Tryd.func35, Tryd.ntmps35
  go_wp2_with (fail)
  go_loopw [3] (fun i y => i = .int .i64 0 ∧ y = w.alloc (.cells #[.bool false, .slice a n c, .slice a' 0 c'] 25)) (fun _ _ => 0)
  case atStart => exact ⟨rfl, rfl⟩
  case round =>
    obtain ⟨rfl, rfl⟩ := hrel
    go_wp2_with (fail)
    go_ret
    exact ⟨rfl, (Below.refl _ _).alloc (Nat.le_refl _) _⟩
theorem rright_walk (w : World) (l : Bool) (n c n' c' : Nat) (a a' : Option Addr) (k : Fo) (hk : IsK w a' n' c' k) :
    Calls Tryd.prog 35 #[.agg #[.bool l, .slice a n c, .slice a' n' c']] w fun e w' => e = .returned (.bool (whole l n k)) ∧ Below w.heap.size w w' := by
  generalize hz : k.size = z at *
  induction z using Nat.strongRecOn generalizing w l n c n' c' a a' k with
  | _ z ih =>
    subst hz
    have hl := hk.1
    cases l with
    | true =>
      by_cases h0 : n = 0
      · subst h0
        have e : whole true 0 k = k.right := by unfold whole; rfl
        rw [e]
        exact rright_list w c n' c' a a' k hk e fun w l n c n' c' a a' k1 h1 h2 => ih k1.size h1 w l n c n' c' a a' k1 h2 rfl
      · have e : whole true n k = false := by
          unfold whole
          have : ((n : Int) == 0) = false := by simpa using (show ¬ (n : Int) = 0 by omega)
          simp [this]
        rw [e]
        exact rright_no w true n c n' c' a a' (show (0 : Int) < n by omega)
    | false =>
      by_cases h0 : n' = 0
      · subst h0
        have hnil : k = .nil := len_zero (by rw [← hl]; rfl)
        subst hnil
        exact rright_text w n c c' a a'
      · have e : whole false n k = false := by
          unfold whole
          have : ((k.len : Int) == 0) = false := by simpa using (show ¬ (k.len : Int) = 0 by omega)
          simp [this]
        rw [e]
        exact rright_no w false n c n' c' a a' (show (0 : Int) < n' by omega)
end Rl
end Go.Proofs.YthlmjcochpodgaaDoor
namespace Go.Proofs.YthlmjcochpodgaaDoor
open Go.ChangeShapes Go.WideShapes Go.Deep Go.RowKit
set_option linter.unusedVariables false
set_option linter.unusedSimpArgs false
namespace Rl
theorem rest_bd : ∀ (k : Fo) (v : Int), k.fit → -281474976710656 ≤ v → k.rest v ≤ v ∧ -281474976710656 ≤ k.rest v
  | .nil, v, _, h => ⟨Int.le_refl _, h⟩
  | .cons l b k r, v, hf, h => by
    show (if v < 0 then v else r.rest (k.rest (v - (1 + b.length)))) ≤ v ∧ -281474976710656 ≤ (if v < 0 then v else r.rest (k.rest (v - (1 + b.length))))
    split
    · exact ⟨Int.le_refl _, h⟩
    · have hb : b.length ≤ 140737488351232 := hf.1
      have h1 := rest_bd k (v - (1 + b.length)) hf.2.1 (by omega)
      have h2 := rest_bd r _ hf.2.2 h1.2
      omega
theorem rest_neg (k : Fo) (v : Int) (h : v < 0) : k.rest v = v := by
  cases k with
  | nil => rfl
  | cons l b k r => show (if v < 0 then v else _) = v; rw [if_pos h]
theorem Fo.drop_fit : ∀ (k : Fo) (j : Nat), k.fit → (k.drop j).fit
  | k, 0, h => by rw [Fo.drop_zero]; exact h
  | .nil, j + 1, _ => trivial
  | .cons l b k r, j + 1, h => Fo.drop_fit r j h.2.2
/-- Is it greater than a statement goes through? -/
def great (n : Nat) (k : Fo) : Bool := decide (k.rest (262144 - (1 + n)) < 0)
end Rl
end Go.Proofs.YthlmjcochpodgaaDoor
namespace Go.Proofs.YthlmjcochpodgaaDoor
open Go.ChangeShapes Go.WideShapes Go.Deep Go.RowKit
set_option linter.unusedVariables false
set_option linter.unusedSimpArgs false
namespace Rl
theorem wrap_le (l : Bool) (b c : List Bt) : (wrap l b c).length ≤ 9 + b.length + c.length := by
  rw [form_len]
  have := big_le (b.length + c.length)
  split
  · omega
  · split <;> omega
theorem rest_form : ∀ (k : Fo) (v : Int), 0 ≤ k.rest v → (k.form.length : Int) + 10 * k.rest v ≤ 10 * v
  | .nil, v, h => by show ((0 : Nat) : Int) + 10 * v ≤ 10 * v; omega
  | .cons l b k r, v, h => by
    by_cases hv : v < 0
    · rw [rest_neg _ _ hv] at h; omega
    · have e : (Fo.cons l b k r).rest v = r.rest (k.rest (v - (1 + b.length))) := by
        show (if v < 0 then v else _) = _; rw [if_neg hv]
      rw [e] at h ⊢
      have h1 := rest_form r _ h
      have hk : 0 ≤ k.rest (v - (1 + b.length)) := by
        apply Int.not_lt.1
        intro hc
        rw [rest_neg _ _ hc] at h; omega
      have h2 := rest_form k _ hk
      have h3 := wrap_le l b k.form
      rw [Fo.form_cons, List.length_append]
      omega
theorem great_form {l : Bool} {bs : List Bt} {k : Fo} (h : great bs.length k = false) : (wrap l bs k.form).length < B30 := by
  unfold great at h
  have h0 : 0 ≤ k.rest (262144 - (1 + (bs.length : Int))) := by simpa using h
  have h1 := rest_form k _ h0
  have h2 := wrap_le l bs k.form
  unfold B30
  omega
theorem cells83 : Tryd.prog.cellsOf 83 = 3 := by kernel_rfl
set_option maxHeartbeats 1000000 in
set_option maxRecDepth 100000 in
theorem short_end (w : World) (n c m : Nat) (a : Option Addr) (hn : 1 ≤ n) (hm : m ≤ 63) (h : n - 1 < m) :
    Calls Tryd.prog 51 #[.slice a n c, .int .i64 m] w fun e w' => e = .returned (.tuple #[.agg #[.bool false, .int .i64 0, .int .i64 0], eN 11]) ∧ Below w.heap.size w w' := by
  have h1 : (n : Int) - 1 < (m : Int) := by omega
  have h2 : (1 : Int) ≤ n := by omega
  have hw : wrap64 ((n : Int) - 1) = (n : Int) - 1 := by unfold wrap64; omega
  have HB : Hid (Below w.heap.size w (w.alloc (.cells #[.bool false, .int .i64 0, .int .i64 0] 83))) := Lib.hid ((Below.refl _ _).alloc (Nat.le_refl _) _)
  clear hn hm h h2
  go_enter Tryd.func51, Tryd.ntmps51
  go_wp2_with (fail)
  exact bodyPost_ret (v := .tuple #[.agg #[.bool false, .int .i64 0, .int .i64 0], eN 11]) (by simp [results, Tryd.results51, go_sem, eN]) rfl ⟨rfl, HB.out⟩
set_option maxHeartbeats 1000000 in
set_option maxRecDepth 100000 in
theorem short_ok (w : World) (n c m : Nat) (a : Option Addr) (hn : 1 ≤ n) (hn2 : n ≤ 4096) (h : m ≤ n - 1) :
    Calls Tryd.prog 51 #[.slice a n c, .int .i64 m] w fun e w' => e = .returned (.tuple #[.agg #[.bool false, .int .i64 1, .int .i64 m], .nilIface]) ∧ Below w.heap.size w w' := by
  have hw : wrap64 ((n : Int) - 1) = (n : Int) - 1 := by unfold wrap64; omega
  have h1 : decide ((n : Int) - 1 < (m : Int)) = false := by simp; omega
  clear hn hn2 h
  go_enter Tryd.func51, Tryd.ntmps51
  go_wp2_with (fail)
  exact bodyPost_ret (v := .tuple #[.agg #[.bool false, .int .i64 1, .int .i64 m], .nilIface]) (by simp [results, Tryd.results51, go_sem]) rfl ⟨rfl, (Below.refl _ _).alloc (Nat.le_refl _) _⟩
set_option maxHeartbeats 1000000 in
set_option maxRecDepth 100000 in
theorem long_end (w : World) (n c m : Nat) (a : Option Addr) (hn : 1 ≤ n) (hm : m ≤ 8) (h : n - 1 < m) :
    Calls Tryd.prog 52 #[.slice a n c, .int .i64 m] w fun e w' => e = .returned (.tuple #[.agg #[.bool false, .int .i64 0, .int .i64 0], eN 11]) ∧ Below w.heap.size w w' := by
  have hw : wrap64 ((n : Int) - 1) = (n : Int) - 1 := by unfold wrap64; omega
  have h1 : (n : Int) - 1 < (m : Int) := by omega
  clear hn hm h
  go_enter Tryd.func52, Tryd.ntmps52
  go_wp2_with (fail)
  exact bodyPost_ret (v := .tuple #[.agg #[.bool false, .int .i64 0, .int .i64 0], eN 11]) (by simp [results, Tryd.results52, go_sem, eN]) rfl ⟨rfl, (Below.refl _ _).alloc (Nat.le_refl _) _⟩
/-- The bytes behind the first one. -/
theorem IsB.sub {w : World} {b o n c : Nat} {bs : List Bt} (h : IsB w (some ⟨b, o, none⟩) n c bs) {i m : Nat} (hm : i + m ≤ n) : IsB w (some ⟨b, o + i, none⟩) m (c - i) (slc bs i m) := by
  obtain ⟨h1, h2, h3, h4, h5⟩ := h
  refine ⟨(slc_len (by omega)).symm, by omega, by omega, fun e => (by cases e), ?_⟩
  rcases Nat.eq_zero_or_pos m with h0 | h0
  · exact .inl h0
  · right
    rcases h5 with h5 | ⟨b', o', e, h6⟩
    · omega
    · injection e with e
      injection e with e1 e2
      subst e1 e2
      refine ⟨b, o + i, rfl, fun j x hx => ?_⟩
      have hj : j < m := by
        have := (List.getElem?_eq_some_iff.1 hx).1
        rw [slc_len (by omega)] at this; exact this
      have := h6 (i + j) x (by
        rw [← hx]; unfold slc
        rw [List.getElem?_take, if_pos hj, List.getElem?_drop])
      rw [← Nat.add_assoc] at this
      exact this
set_option maxHeartbeats 2000000 in
set_option maxRecDepth 100000 in
theorem long_walk (w : World) (n c m b o : Nat) (bs : List Bt) (hB : IsB w (some ⟨b, o, none⟩) n c bs) (hn2 : n ≤ 4096) (hm0 : 1 ≤ m) (hm : m ≤ 8) (h : m ≤ n - 1) :
    Calls Tryd.prog 52 #[.slice (some ⟨b, o, none⟩) n c, .int .i64 m] w fun e w' =>
      e = .returned (if n - 1 - m < num 0 (slc bs 1 m) then .tuple #[.agg #[.bool false, .int .i64 0, .int .i64 0], eN 11] else if (bs.getD 1 0#8).toNat = 0 ∨ num 0 (slc bs 1 m) < 56 then .tuple #[.agg #[.bool false, .int .i64 0, .int .i64 0], eN 12] else .tuple #[.agg #[.bool false, .int .i64 (1 + m : Nat), .int .i64 (num 0 (slc bs 1 m))], .nilIface]) ∧ Below w.heap.size w w' := by
  have HB0 : Hid (Below w.heap.size w (w.alloc (.cells #[.bool false, .int .i64 0, .int .i64 0] 83))) := Lib.hid ((Below.refl _ _).alloc (Nat.le_refl _) _)
  have HN := Lib.hid (number_walk (w.alloc (.cells #[.bool false, .int .i64 0, .int .i64 0] 83)) (some ⟨b, o + 1, none⟩) m (c - 1) (slc bs 1 m) ((hB.sub (i := 1) (m := m) (by omega)).keep (keep_below HB0.out)) hm)
  obtain ⟨b1, o1, e1, g1⟩ := hB.cellAt (j := 1) (by omega)
  injection e1 with e1
  injection e1 with e1 e2
  subst e1 e2
  have g1 := keep_below HB0.out _ _ g1
  generalize hq : num 0 (slc bs 1 m) = q at *
  generalize hx : (bs.getD 1 0#8).toNat = x at *
  have hw : wrap64 ((n : Int) - 1) = (n : Int) - 1 := by unfold wrap64; omega
  have h1 : decide ((n : Int) - 1 < (m : Int)) = false := by simp; omega
  have hw2 : wrap64 (1 + (m : Int)) = 1 + (m : Int) := by unfold wrap64; omega
  have hnc := hB.2.1
  have hcm := hB.2.2.1
  have HBD := Lib.hid (show 1 ≤ m ∧ m ≤ 8 ∧ m ≤ n - 1 ∧ n ≤ 4096 from ⟨hm0, hm, h, hn2⟩)
  have hw3 : wrap64 ((n : Int) - 1 - (m : Int)) = (n : Int) - 1 - m := by unfold wrap64; omega
  have hw4 : IntKind.u64.wrap ((n : Int) - 1 - (m : Int)) = (n : Int) - 1 - m := by show ((n : Int) - 1 - (m : Int)) % 18446744073709551616 = _; omega
  generalize hR : (if n - 1 - m < q then Value.tuple #[.agg #[.bool false, .int .i64 0, .int .i64 0], eN 11] else if x = 0 ∨ q < 56 then .tuple #[.agg #[.bool false, .int .i64 0, .int .i64 0], eN 12] else .tuple #[.agg #[.bool false, .int .i64 (1 + m : Nat), .int .i64 q], .nilIface]) = R at *
  have HR := Lib.hid hR
  have hc1 : ¬ c = 1 := by omega
  have hm1 : (1 : Int) ≤ 1 + (m : Int) := by omega
  have hm2 : 1 + (m : Int) ≤ (n : Int) := by omega
  have hm3 : (n : Int) ≤ (c : Int) := by omega
  clear hR hm0 hm h hn2 hw3 hw4
  clear hB hq hx
  go_enter Tryd.func52, Tryd.ntmps52
  go_upto_region 4 with (go_at_call 40; (with_reducible refine HN.out.mono ?_); rintro e y1 ⟨rfl, rfl⟩)
  have hw3 : wrap64 ((n : Int) - 1 - (m : Int)) = (n : Int) - 1 - m := by have := HBD.out; unfold wrap64; omega
  have hw4 : IntKind.u64.wrap ((n : Int) - 1 - (m : Int)) = (n : Int) - 1 - m := by have := HBD.out; show ((n : Int) - 1 - (m : Int)) % 18446744073709551616 = _; omega
  clear hm1 hm2 hm3 hnc hcm h1 hw2 HN hc1
  have h1n : (1 : Int) < (n : Int) := by have := HBD.out; omega
  by_cases ha : (n : Int) - 1 - m < (q : Int)
  · have e : Hid (R = Value.tuple #[.agg #[.bool false, .int .i64 0, .int .i64 0], eN 11]) := Lib.hid (by rw [← HR.out, if_pos (by have := HBD.out; omega)])
    go_wp2_with (fail)
    exact bodyPost_ret (v := .tuple #[.agg #[.bool false, .int .i64 0, .int .i64 0], eN 11]) (by simp [results, Tryd.results52, go_sem, eN]) rfl ⟨by rw [e.out], HB0.out⟩
  · have ha1 : decide ((n : Int) - 1 - m < (q : Int)) = false := by simpa using ha
    have ha2 : ¬ n - 1 - m < q := by have := HBD.out; omega
    have HA2 := Lib.hid ha2
    have hw5 : wrap64 (q : Int) = (q : Int) := by have := HBD.out; unfold wrap64; omega
    clear ha ha2
    by_cases hx0 : x = 0
    · subst hx0
      have e : Hid (R = Value.tuple #[.agg #[.bool false, .int .i64 0, .int .i64 0], eN 12]) := Lib.hid (by rw [← HR.out, if_neg HA2.out, if_pos (.inl rfl)])
      go_wp2_with (fail)
      exact bodyPost_ret (v := .tuple #[.agg #[.bool false, .int .i64 0, .int .i64 0], eN 12]) (by simp [results, Tryd.results52, go_sem, eN]) rfl ⟨by rw [e.out], HB0.out⟩
    · have hx1 : ((x : Int) == 0) = false := by
        have : ¬ (x : Int) = 0 := by omega
        simpa using this
      have HX0 := Lib.hid hx0
      clear hx0
      by_cases h56 : (q : Int) < 56
      · have e : Hid (R = Value.tuple #[.agg #[.bool false, .int .i64 0, .int .i64 0], eN 12]) := Lib.hid (by rw [← HR.out, if_neg HA2.out, if_pos (.inr (by omega))])
        go_wp2_with (fail)
        exact bodyPost_ret (v := .tuple #[.agg #[.bool false, .int .i64 0, .int .i64 0], eN 12]) (by simp [results, Tryd.results52, go_sem, eN]) rfl ⟨by rw [e.out], HB0.out⟩
      · have h561 : decide ((q : Int) < 56) = false := by simpa using h56
        have e : Hid (R = Value.tuple #[.agg #[.bool false, .int .i64 (1 + m : Nat), .int .i64 q], .nilIface]) := Lib.hid (by rw [← HR.out, if_neg HA2.out, if_neg (by have := HX0.out; omega)])
        have hwm : wrap64 (1 + (m : Int)) = ((1 + m : Nat) : Int) := by have := HBD.out; unfold wrap64; omega
        clear h56
        go_wp2_with (fail)
        exact bodyPost_ret (v := .tuple #[.agg #[.bool false, .int .i64 (1 + m : Nat), .int .i64 q], .nilIface]) (by simp [results, Tryd.results52, go_sem]) rfl ⟨by rw [e.out], (Below.refl _ _).alloc (Nat.le_refl _) _⟩
end Rl
end Go.Proofs.YthlmjcochpodgaaDoor
namespace Go.Proofs.YthlmjcochpodgaaDoor
open Go.ChangeShapes Go.WideShapes Go.Deep Go.RowKit
set_option linter.unusedVariables false
set_option linter.unusedSimpArgs false
namespace Rl
/-- A head by value. -/
def hv (l : Bool) (s n : Int) : Value := .agg #[.bool l, .int .i64 s, .int .i64 n]
set_option maxHeartbeats 1000000 in
set_option maxRecDepth 100000 in
theorem head_one (w : World) (n c b o F : Nat) (hF : F < 128) (hc : w.cell? ⟨b, o, none⟩ = some (.int .u8 F)) (hn : 1 ≤ n) :
    Calls Tryd.prog 43 #[.slice (some ⟨b, o, none⟩) n c] w fun e w' => e = .returned (.tuple #[hv false 0 1, .nilIface]) ∧ Below w.heap.size w w' := by
  have HB0 : Hid (Below w.heap.size w (w.alloc (.cells #[.bool false, .int .i64 0, .int .i64 0] 83))) := Lib.hid ((Below.refl _ _).alloc (Nat.le_refl _) _)
  have g0 := keep_below HB0.out _ _ hc
  have h1 : (F : Int) < 128 := by omega
  have h2 : (0 : Int) < n := by omega
  have hw : wrap64 (F : Int) = F := by unfold wrap64; omega
  clear hF hc hn
  go_enter Tryd.func43, Tryd.ntmps43
  go_wp2_with (fail)
  exact bodyPost_ret (v := .tuple #[hv false 0 1, .nilIface]) (by simp [results, Tryd.results43, go_sem, hv]) rfl ⟨rfl, (Below.refl _ _).alloc (Nat.le_refl _) _⟩
set_option maxHeartbeats 2000000 in
set_option maxRecDepth 100000 in
theorem head_long (w : World) (n c b o F : Nat) (hF : 184 ≤ F) (hF2 : F < 192) (hc : w.cell? ⟨b, o, none⟩ = some (.int .u8 F)) (hn : 1 ≤ n) (l : Bool) (s m : Int) (er : Value)
    (h : ∀ y, Below w.heap.size w y → Calls Tryd.prog 52 #[.slice (some ⟨b, o, none⟩) n c, .int .i64 ((F : Int) - 183)] y fun e w' => e = .returned (.tuple #[.agg #[.bool l, .int .i64 s, .int .i64 m], er]) ∧ Below y.heap.size y w') :
    Calls Tryd.prog 43 #[.slice (some ⟨b, o, none⟩) n c] w fun e w' => e = .returned (.tuple #[hv l s m, er]) ∧ Below w.heap.size w w' := by
  have HB0 : Hid (Below w.heap.size w (w.alloc (.cells #[.bool false, .int .i64 0, .int .i64 0] 83))) := Lib.hid ((Below.refl _ _).alloc (Nat.le_refl _) _)
  have g0 := keep_below HB0.out _ _ hc
  have h1 : decide ((F : Int) < 128) = false := by simp; omega
  have h3 : decide ((F : Int) ≤ 183) = false := by simp; omega
  have h4 : (F : Int) < 192 := by omega
  have h2 : (0 : Int) < n := by omega
  have hw : wrap64 (F : Int) = F := by unfold wrap64; omega
  have HH := Lib.hid (h _ HB0.out)
  clear hF hF2 hc hn h
  go_enter Tryd.func43, Tryd.ntmps43
  go_wp2_with (go_at_call 52; (with_reducible refine HH.out.mono ?_); rintro e y1 ⟨rfl, hb⟩; have H1 := Lib.hid (bl HB0.out hb); have k0 := keep1 hb (o := 0) (b := w.heap.size) (x := .bool false) (by simp); have k1 := keep1 hb (o := 1) (b := w.heap.size) (x := .int .i64 0) (by simp); have k2 := keep1 hb (o := 2) (b := w.heap.size) (x := .int .i64 0) (by simp); have f0 := keepF hb (b := w.heap.size) (o := 0) (by simp) (by simp); have f1 := keepF hb (b := w.heap.size) (o := 1) (by simp) (by simp); have f2 := keepF hb (b := w.heap.size) (o := 2) (by simp) (by simp); clear hb HH)
  exact bodyPost_ret (v := .tuple #[hv l s m, er]) (by simp [results, Tryd.results43, go_sem, hv, k0, k1, k2]) rfl ⟨rfl, ((H1.out.setCell (Nat.le_refl _) _).setCell (Nat.le_refl _) _).setCell (Nat.le_refl _) _⟩
set_option maxHeartbeats 2000000 in
set_option maxRecDepth 100000 in
theorem head_biglist (w : World) (n c b o F : Nat) (hF : 248 ≤ F) (hF2 : F < 256) (hc : w.cell? ⟨b, o, none⟩ = some (.int .u8 F)) (hn : 1 ≤ n) (l : Bool) (s m : Int) (er : Value)
    (h : ∀ y, Below w.heap.size w y → Calls Tryd.prog 52 #[.slice (some ⟨b, o, none⟩) n c, .int .i64 ((F : Int) - 247)] y fun e w' => e = .returned (.tuple #[.agg #[.bool l, .int .i64 s, .int .i64 m], er]) ∧ Below y.heap.size y w') :
    Calls Tryd.prog 43 #[.slice (some ⟨b, o, none⟩) n c] w fun e w' => e = .returned (.tuple #[hv true s m, er]) ∧ Below w.heap.size w w' := by
  have HB0 : Hid (Below w.heap.size w (w.alloc (.cells #[.bool false, .int .i64 0, .int .i64 0] 83))) := Lib.hid ((Below.refl _ _).alloc (Nat.le_refl _) _)
  have g0 := keep_below HB0.out _ _ hc
  have h1 : decide ((F : Int) < 128) = false := by simp; omega
  have h3 : decide ((F : Int) ≤ 183) = false := by simp; omega
  have h4 : decide ((F : Int) < 192) = false := by simp; omega
  have h5 : decide ((F : Int) ≤ 247) = false := by simp; omega
  have h2 : (0 : Int) < n := by omega
  have hw : wrap64 (F : Int) = F := by unfold wrap64; omega
  have hw2 : wrap64 ((F : Int) - 247) = (F : Int) - 247 := by unfold wrap64; omega
  have HH := Lib.hid (h _ HB0.out)
  clear hF hF2 hc hn h
  go_enter Tryd.func43, Tryd.ntmps43
  go_wp2_with (go_at_call 52; (with_reducible refine HH.out.mono ?_); rintro e y1 ⟨rfl, hb⟩; have H1 := Lib.hid (bl HB0.out hb); have k0 := keep1 hb (o := 0) (b := w.heap.size) (x := .bool false) (by simp); have k1 := keep1 hb (o := 1) (b := w.heap.size) (x := .int .i64 0) (by simp); have k2 := keep1 hb (o := 2) (b := w.heap.size) (x := .int .i64 0) (by simp); have f0 := keepF hb (b := w.heap.size) (o := 0) (by simp) (by simp); have f1 := keepF hb (b := w.heap.size) (o := 1) (by simp) (by simp); have f2 := keepF hb (b := w.heap.size) (o := 2) (by simp) (by simp); have HA := (Below.refl y1.heap.size y1).alloc (Nat.le_refl _) (.cells #[.bool true, .int .i64 s, .int .i64 m] 83); have hlt := inHeap k0; have k0 := keep1 HA k0; have k1 := keep1 HA k1; have k2 := keep1 HA k2; have f0 := keepF HA hlt f0; have f1 := keepF HA hlt f1; have f2 := keepF HA hlt f2; clear hb HH HA hlt)
  exact bodyPost_ret (v := .tuple #[hv true s m, er]) (by simp [results, Tryd.results43, go_sem, hv, k0, k1, k2]) rfl ⟨rfl, (((H1.out.alloc H1.out.size _).setCell (Nat.le_refl _) _).setCell (Nat.le_refl _) _).setCell (Nat.le_refl _) _⟩
set_option maxHeartbeats 2000000 in
set_option maxRecDepth 100000 in
theorem head_list (w : World) (n c b o F : Nat) (hF : 192 ≤ F) (hF2 : F ≤ 247) (hc : w.cell? ⟨b, o, none⟩ = some (.int .u8 F)) (hn : 1 ≤ n) (l : Bool) (s m : Int) (er : Value)
    (h : ∀ y, Below w.heap.size w y → Calls Tryd.prog 51 #[.slice (some ⟨b, o, none⟩) n c, .int .i64 ((F : Int) - 192)] y fun e w' => e = .returned (.tuple #[.agg #[.bool l, .int .i64 s, .int .i64 m], er]) ∧ Below y.heap.size y w') :
    Calls Tryd.prog 43 #[.slice (some ⟨b, o, none⟩) n c] w fun e w' => e = .returned (.tuple #[hv true s m, er]) ∧ Below w.heap.size w w' := by
  have HB0 : Hid (Below w.heap.size w (w.alloc (.cells #[.bool false, .int .i64 0, .int .i64 0] 83))) := Lib.hid ((Below.refl _ _).alloc (Nat.le_refl _) _)
  have g0 := keep_below HB0.out _ _ hc
  have h1 : decide ((F : Int) < 128) = false := by simp; omega
  have h3 : decide ((F : Int) ≤ 183) = false := by simp; omega
  have h4 : decide ((F : Int) < 192) = false := by simp; omega
  have h5 : (F : Int) ≤ 247 := by omega
  have h2 : (0 : Int) < n := by omega
  have hw : wrap64 (F : Int) = F := by unfold wrap64; omega
  have HH := Lib.hid (h _ HB0.out)
  clear hF hF2 hc hn h
  go_enter Tryd.func43, Tryd.ntmps43
  go_wp2_with (go_at_call 51; (with_reducible refine HH.out.mono ?_); rintro e y1 ⟨rfl, hb⟩; have H1 := Lib.hid (bl HB0.out hb); have k0 := keep1 hb (o := 0) (b := w.heap.size) (x := .bool false) (by simp); have k1 := keep1 hb (o := 1) (b := w.heap.size) (x := .int .i64 0) (by simp); have k2 := keep1 hb (o := 2) (b := w.heap.size) (x := .int .i64 0) (by simp); have f0 := keepF hb (b := w.heap.size) (o := 0) (by simp) (by simp); have f1 := keepF hb (b := w.heap.size) (o := 1) (by simp) (by simp); have f2 := keepF hb (b := w.heap.size) (o := 2) (by simp) (by simp); have HA := (Below.refl y1.heap.size y1).alloc (Nat.le_refl _) (.cells #[.bool true, .int .i64 s, .int .i64 m] 83); have hlt := inHeap k0; have k0 := keep1 HA k0; have k1 := keep1 HA k1; have k2 := keep1 HA k2; have f0 := keepF HA hlt f0; have f1 := keepF HA hlt f1; have f2 := keepF HA hlt f2; clear hb HH HA hlt)
  exact bodyPost_ret (v := .tuple #[hv true s m, er]) (by simp [results, Tryd.results43, go_sem, hv, k0, k1, k2]) rfl ⟨rfl, (((H1.out.alloc H1.out.size _).setCell (Nat.le_refl _) _).setCell (Nat.le_refl _) _).setCell (Nat.le_refl _) _⟩
set_option maxHeartbeats 2000000 in
set_option maxRecDepth 100000 in
theorem head_text_bad (w : World) (n c b o F : Nat) (hF : 128 ≤ F) (hF2 : F ≤ 183) (hc : w.cell? ⟨b, o, none⟩ = some (.int .u8 F)) (hn : 1 ≤ n) (k : Int)
    (h : ∀ y, Below w.heap.size w y → Calls Tryd.prog 51 #[.slice (some ⟨b, o, none⟩) n c, .int .i64 ((F : Int) - 128)] y fun e w' => e = .returned (.tuple #[.agg #[.bool false, .int .i64 0, .int .i64 0], eN k]) ∧ Below y.heap.size y w') :
    Calls Tryd.prog 43 #[.slice (some ⟨b, o, none⟩) n c] w fun e w' => e = .returned (.tuple #[hv false 0 0, eN k]) ∧ Below w.heap.size w w' := by
  have HB0 : Hid (Below w.heap.size w (w.alloc (.cells #[.bool false, .int .i64 0, .int .i64 0] 83))) := Lib.hid ((Below.refl _ _).alloc (Nat.le_refl _) _)
  have g0 := keep_below HB0.out _ _ hc
  have h1 : decide ((F : Int) < 128) = false := by simp; omega
  have h3 : (F : Int) ≤ 183 := by omega
  have h2 : (0 : Int) < n := by omega
  have hw : wrap64 (F : Int) = F := by unfold wrap64; omega
  have HH := Lib.hid (h _ HB0.out)
  clear hF hF2 hc hn h
  unfold eN at *
  go_enter Tryd.func43, Tryd.ntmps43
  go_wp2_with (go_at_call 51; (with_reducible refine HH.out.mono ?_); rintro e y1 ⟨rfl, hb⟩; have H1 := Lib.hid (bl HB0.out hb); have k0 := keep1 hb (o := 0) (b := w.heap.size) (x := .bool false) (by simp); have k1 := keep1 hb (o := 1) (b := w.heap.size) (x := .int .i64 0) (by simp); have k2 := keep1 hb (o := 2) (b := w.heap.size) (x := .int .i64 0) (by simp); have f0 := keepF hb (b := w.heap.size) (o := 0) (by simp) (by simp); have f1 := keepF hb (b := w.heap.size) (o := 1) (by simp) (by simp); have f2 := keepF hb (b := w.heap.size) (o := 2) (by simp) (by simp); have HA := (Below.refl y1.heap.size y1).alloc (Nat.le_refl _) (.cells #[.bool false, .int .i64 0, .int .i64 0] 83); have hlt := inHeap k0; have k0 := keep1 HA k0; have k1 := keep1 HA k1; have k2 := keep1 HA k2; have f0 := keepF HA hlt f0; have f1 := keepF HA hlt f1; have f2 := keepF HA hlt f2; clear hb HH HA hlt)
  exact bodyPost_ret (v := .tuple #[hv false 0 0, eN k]) (by simp [results, Tryd.results43, go_sem, hv, eN, k0, k1, k2]) rfl ⟨rfl, (((H1.out.alloc H1.out.size _).setCell (Nat.le_refl _) _).setCell (Nat.le_refl _) _).setCell (Nat.le_refl _) _⟩
set_option maxHeartbeats 2000000 in
set_option maxRecDepth 100000 in
theorem head_text_form (w : World) (n c b o F : Nat) (hF : 128 ≤ F) (hF2 : F ≤ 183) (hc : w.cell? ⟨b, o, none⟩ = some (.int .u8 F)) (hn : 1 ≤ n) (X : Nat) (hX : X < 128) (hn2 : 2 ≤ n) (gw : w.cell? ⟨b, o + 1, none⟩ = some (.int .u8 X))
    (h : ∀ y, Below w.heap.size w y → Calls Tryd.prog 51 #[.slice (some ⟨b, o, none⟩) n c, .int .i64 ((F : Int) - 128)] y fun e w' => e = .returned (.tuple #[.agg #[.bool false, .int .i64 1, .int .i64 1], .nilIface]) ∧ Below y.heap.size y w') :
    Calls Tryd.prog 43 #[.slice (some ⟨b, o, none⟩) n c] w fun e w' => e = .returned (.tuple #[hv false 0 0, eN 12]) ∧ Below w.heap.size w w' := by
  have HB0 : Hid (Below w.heap.size w (w.alloc (.cells #[.bool false, .int .i64 0, .int .i64 0] 83))) := Lib.hid ((Below.refl _ _).alloc (Nat.le_refl _) _)
  have g0 := keep_below HB0.out _ _ hc
  have h1 : decide ((F : Int) < 128) = false := by simp; omega
  have h3 : (F : Int) ≤ 183 := by omega
  have h2 : (0 : Int) < n := by omega
  have hw : wrap64 (F : Int) = F := by unfold wrap64; omega
  have HH := Lib.hid (h _ HB0.out)
  clear hF hF2 hc hn h
  have hx1 : (X : Int) < 128 := by omega
  have hn1 : (1 : Int) < n := by omega
  have GW := Lib.hid gw
  clear gw hX hn2
  go_enter Tryd.func43, Tryd.ntmps43
  go_wp2_with (go_at_call 51; (with_reducible refine HH.out.mono ?_); rintro e y1 ⟨rfl, hb⟩; have H1 := Lib.hid (bl HB0.out hb); have k0 := keep1 hb (o := 0) (b := w.heap.size) (x := .bool false) (by simp); have k1 := keep1 hb (o := 1) (b := w.heap.size) (x := .int .i64 0) (by simp); have k2 := keep1 hb (o := 2) (b := w.heap.size) (x := .int .i64 0) (by simp); have f0 := keepF hb (b := w.heap.size) (o := 0) (by simp) (by simp); have f1 := keepF hb (b := w.heap.size) (o := 1) (by simp) (by simp); have f2 := keepF hb (b := w.heap.size) (o := 2) (by simp) (by simp); have HA := (Below.refl y1.heap.size y1).alloc (Nat.le_refl _) (.cells #[.bool false, .int .i64 1, .int .i64 1] 83); have gx := keep1 HA (keep_below H1.out _ _ GW.out); have hlt := inHeap k0; have k0 := keep1 HA k0; have k1 := keep1 HA k1; have k2 := keep1 HA k2; have f0 := keepF HA hlt f0; have f1 := keepF HA hlt f1; have f2 := keepF HA hlt f2; clear hb HH HA hlt)
  exact bodyPost_ret (v := .tuple #[hv false 0 0, eN 12]) (by simp [results, Tryd.results43, go_sem, hv, eN, k0, k1, k2]) rfl ⟨rfl, (((H1.out.alloc H1.out.size _).setCell (Nat.le_refl _) _).setCell (Nat.le_refl _) _).setCell (Nat.le_refl _) _⟩
set_option maxHeartbeats 2000000 in
set_option maxRecDepth 100000 in
theorem head_text_one (w : World) (n c b o F : Nat) (hF : 128 ≤ F) (hF2 : F ≤ 183) (hc : w.cell? ⟨b, o, none⟩ = some (.int .u8 F)) (hn : 1 ≤ n) (X : Nat) (hX : 128 ≤ X) (hn2 : 2 ≤ n) (gw : w.cell? ⟨b, o + 1, none⟩ = some (.int .u8 X))
    (h : ∀ y, Below w.heap.size w y → Calls Tryd.prog 51 #[.slice (some ⟨b, o, none⟩) n c, .int .i64 ((F : Int) - 128)] y fun e w' => e = .returned (.tuple #[.agg #[.bool false, .int .i64 1, .int .i64 1], .nilIface]) ∧ Below y.heap.size y w') :
    Calls Tryd.prog 43 #[.slice (some ⟨b, o, none⟩) n c] w fun e w' => e = .returned (.tuple #[hv false 1 1, .nilIface]) ∧ Below w.heap.size w w' := by
  have HB0 : Hid (Below w.heap.size w (w.alloc (.cells #[.bool false, .int .i64 0, .int .i64 0] 83))) := Lib.hid ((Below.refl _ _).alloc (Nat.le_refl _) _)
  have g0 := keep_below HB0.out _ _ hc
  have h1 : decide ((F : Int) < 128) = false := by simp; omega
  have h3 : (F : Int) ≤ 183 := by omega
  have h2 : (0 : Int) < n := by omega
  have hw : wrap64 (F : Int) = F := by unfold wrap64; omega
  have HH := Lib.hid (h _ HB0.out)
  clear hF hF2 hc hn h
  have hx1 : decide ((X : Int) < 128) = false := by simp; omega
  have hn1 : (1 : Int) < n := by omega
  have GW := Lib.hid gw
  clear gw hX hn2
  go_enter Tryd.func43, Tryd.ntmps43
  go_wp2_with (go_at_call 51; (with_reducible refine HH.out.mono ?_); rintro e y1 ⟨rfl, hb⟩; have H1 := Lib.hid (bl HB0.out hb); have k0 := keep1 hb (o := 0) (b := w.heap.size) (x := .bool false) (by simp); have k1 := keep1 hb (o := 1) (b := w.heap.size) (x := .int .i64 0) (by simp); have k2 := keep1 hb (o := 2) (b := w.heap.size) (x := .int .i64 0) (by simp); have f0 := keepF hb (b := w.heap.size) (o := 0) (by simp) (by simp); have f1 := keepF hb (b := w.heap.size) (o := 1) (by simp) (by simp); have f2 := keepF hb (b := w.heap.size) (o := 2) (by simp) (by simp); have HA := (Below.refl y1.heap.size y1).alloc (Nat.le_refl _) (.cells #[.bool false, .int .i64 1, .int .i64 1] 83); have gx := keep1 HA (keep_below H1.out _ _ GW.out); have hlt := inHeap k0; have k0 := keep1 HA k0; have k1 := keep1 HA k1; have k2 := keep1 HA k2; have f0 := keepF HA hlt f0; have f1 := keepF HA hlt f1; have f2 := keepF HA hlt f2; clear hb HH HA hlt)
  exact bodyPost_ret (v := .tuple #[hv false 1 1, .nilIface]) (by simp [results, Tryd.results43, go_sem, hv, eN, k0, k1, k2]) rfl ⟨rfl, (((H1.out.alloc H1.out.size _).setCell (Nat.le_refl _) _).setCell (Nat.le_refl _) _).setCell (Nat.le_refl _) _⟩
set_option maxHeartbeats 2000000 in
set_option maxRecDepth 100000 in
theorem head_text_ok (w : World) (n c b o F : Nat) (hF : 128 ≤ F) (hF2 : F ≤ 183) (hc : w.cell? ⟨b, o, none⟩ = some (.int .u8 F)) (hn : 1 ≤ n) (m : Nat) (hm : m ≠ 1)
    (h : ∀ y, Below w.heap.size w y → Calls Tryd.prog 51 #[.slice (some ⟨b, o, none⟩) n c, .int .i64 ((F : Int) - 128)] y fun e w' => e = .returned (.tuple #[.agg #[.bool false, .int .i64 1, .int .i64 m], .nilIface]) ∧ Below y.heap.size y w') :
    Calls Tryd.prog 43 #[.slice (some ⟨b, o, none⟩) n c] w fun e w' => e = .returned (.tuple #[hv false 1 m, .nilIface]) ∧ Below w.heap.size w w' := by
  have HB0 : Hid (Below w.heap.size w (w.alloc (.cells #[.bool false, .int .i64 0, .int .i64 0] 83))) := Lib.hid ((Below.refl _ _).alloc (Nat.le_refl _) _)
  have g0 := keep_below HB0.out _ _ hc
  have h1 : decide ((F : Int) < 128) = false := by simp; omega
  have h3 : (F : Int) ≤ 183 := by omega
  have h2 : (0 : Int) < n := by omega
  have hw : wrap64 (F : Int) = F := by unfold wrap64; omega
  have HH := Lib.hid (h _ HB0.out)
  clear hF hF2 hc hn h
  have hm1 : ((m : Int) == 1) = false := by
    have : ¬ (m : Int) = 1 := by omega
    simpa using this
  clear hm
  go_enter Tryd.func43, Tryd.ntmps43
  go_wp2_with (go_at_call 51; (with_reducible refine HH.out.mono ?_); rintro e y1 ⟨rfl, hb⟩; have H1 := Lib.hid (bl HB0.out hb); have k0 := keep1 hb (o := 0) (b := w.heap.size) (x := .bool false) (by simp); have k1 := keep1 hb (o := 1) (b := w.heap.size) (x := .int .i64 0) (by simp); have k2 := keep1 hb (o := 2) (b := w.heap.size) (x := .int .i64 0) (by simp); have f0 := keepF hb (b := w.heap.size) (o := 0) (by simp) (by simp); have f1 := keepF hb (b := w.heap.size) (o := 1) (by simp) (by simp); have f2 := keepF hb (b := w.heap.size) (o := 2) (by simp) (by simp); have HA := (Below.refl y1.heap.size y1).alloc (Nat.le_refl _) (.cells #[.bool false, .int .i64 1, .int .i64 m] 83); have hlt := inHeap k0; have k0 := keep1 HA k0; have k1 := keep1 HA k1; have k2 := keep1 HA k2; have f0 := keepF HA hlt f0; have f1 := keepF HA hlt f1; have f2 := keepF HA hlt f2; clear hb HH HA hlt)
  exact bodyPost_ret (v := .tuple #[hv false 1 m, .nilIface]) (by simp [results, Tryd.results43, go_sem, hv, eN, k0, k1, k2]) rfl ⟨rfl, (((H1.out.alloc H1.out.size _).setCell (Nat.le_refl _) _).setCell (Nat.le_refl _) _).setCell (Nat.le_refl _) _⟩
end Rl
end Go.Proofs.YthlmjcochpodgaaDoor
namespace Go.Proofs.YthlmjcochpodgaaDoor
open Go.ChangeShapes Go.WideShapes Go.Deep Go.RowKit
set_option linter.unusedVariables false
set_option linter.unusedSimpArgs false
namespace Rl
/-- A head's answer. -/
def hOut : Hd → Value → Prop
  | .bad k, v => ∃ l, v = .tuple #[hv l 0 0, eN k]
  | .ok l s n, v => v = .tuple #[hv l s n, .nilIface]
/-- What long answers, told in a list's stead, too. -/
def lOut (l : Bool) : Hd → Value × Value
  | .bad k => (hv l 0 0, eN k)
  | .ok _ s n => (hv l s n, .nilIface)
theorem long_hd (w : World) (n c m b o : Nat) (bs : List Bt) (hB : IsB w (some ⟨b, o, none⟩) n c bs) (hn1 : 1 ≤ n) (hn2 : n ≤ 4096) (hm0 : 1 ≤ m) (hm : m ≤ 8) (l : Bool) :
    ∃ (s q : Int) (er : Value), hOut (hdL bs 0 n m l) (.tuple #[hv l s q, er]) ∧ ∀ y, Below w.heap.size w y → Calls Tryd.prog 52 #[.slice (some ⟨b, o, none⟩) n c, .int .i64 m] y fun e w' => e = .returned (.tuple #[.agg #[.bool false, .int .i64 s, .int .i64 q], er]) ∧ Below y.heap.size y w' := by
  unfold hdL at'
  rw [Nat.zero_add]
  by_cases h1 : n < 1 + m
  · rw [if_pos h1]
    exact ⟨0, 0, eN 11, ⟨l, rfl⟩, fun y hy => long_end y n c m _ hn1 hm (by omega)⟩
  · rw [if_neg h1]
    by_cases h2 : n < 1 + m + num 0 (slc bs 1 m)
    · rw [if_pos h2]
      refine ⟨0, 0, eN 11, ⟨l, rfl⟩, fun y hy => ?_⟩
      have := long_walk y n c m b o bs (hB.keep (keep_below hy)) hn2 hm0 hm (by omega)
      rw [if_pos (by omega)] at this
      exact this
    · rw [if_neg h2]
      by_cases h3 : (bs.getD 1 0#8).toNat = 0 ∨ num 0 (slc bs 1 m) < 56
      · rw [if_pos h3]
        refine ⟨0, 0, eN 12, ⟨l, rfl⟩, fun y hy => ?_⟩
        have := long_walk y n c m b o bs (hB.keep (keep_below hy)) hn2 hm0 hm (by omega)
        rw [if_neg (by omega), if_pos h3] at this
        exact this
      · rw [if_neg h3]
        refine ⟨(1 + m : Nat), num 0 (slc bs 1 m), .nilIface, rfl, fun y hy => ?_⟩
        have := long_walk y n c m b o bs (hB.keep (keep_below hy)) hn2 hm0 hm (by omega)
        rw [if_neg (by omega), if_neg h3] at this
        exact this
set_option maxRecDepth 100000 in
theorem headOf_walk (w : World) (n c b o : Nat) (bs : List Bt) (hB : IsB w (some ⟨b, o, none⟩) n c bs) (hn1 : 1 ≤ n) (hn2 : n ≤ 4096) :
    Calls Tryd.prog 43 #[.slice (some ⟨b, o, none⟩) n c] w fun e w' => ∃ v, e = .returned v ∧ hOut (hd bs 0 n) v ∧ Below w.heap.size w w' := by
  obtain ⟨b0, o0, e0, hc⟩ := hB.cellAt (j := 0) (by omega)
  injection e0 with e0
  injection e0 with e1 e2
  subst e1 e2
  have hc : w.cell? ⟨b, o, none⟩ = some (.int .u8 ((at' bs 0 : Nat) : Int)) := hc
  have hF8 : at' bs 0 < 256 := BitVec.isLt _
  have fin : ∀ {v : Value}, hOut (hd bs 0 n) v → (Calls Tryd.prog 43 #[.slice (some ⟨b, o, none⟩) n c] w fun e w' => e = .returned v ∧ Below w.heap.size w w') → Calls Tryd.prog 43 #[.slice (some ⟨b, o, none⟩) n c] w fun e w' => ∃ v, e = .returned v ∧ hOut (hd bs 0 n) v ∧ Below w.heap.size w w' := fun {v} h1 h2 => by
    refine h2.mono ?_
    rintro e w' ⟨rfl, hb⟩
    exact ⟨v, rfl, h1, hb⟩
  unfold hd at fin ⊢
  generalize hF : at' bs 0 = F at *
  by_cases h1 : F < 128
  · rw [if_pos h1] at fin ⊢
    exact fin rfl (head_one w n c b o F h1 hc hn1)
  · rw [if_neg h1] at fin ⊢
    by_cases h2 : F ≤ 183
    · rw [if_pos h2] at fin ⊢
      have e : ((F : Int) - 128) = ((F - 128 : Nat) : Int) := by omega
      by_cases h3 : n < 0 + 1 + (F - 128)
      · rw [if_pos h3] at fin ⊢
        exact fin ⟨false, rfl⟩ (head_text_bad w n c b o F (by omega) h2 hc hn1 11 fun y hy => by rw [e]; exact short_end y n c (F - 128) _ hn1 (by omega) (by omega))
      · rw [if_neg h3] at fin ⊢
        have hs : ∀ y, Below w.heap.size w y → Calls Tryd.prog 51 #[.slice (some ⟨b, o, none⟩) n c, .int .i64 ((F : Int) - 128)] y fun e w' => e = .returned (.tuple #[.agg #[.bool false, .int .i64 1, .int .i64 (F - 128 : Nat)], .nilIface]) ∧ Below y.heap.size y w' := fun y hy => by
          rw [e]; exact short_ok y n c (F - 128) _ hn1 hn2 (by omega)
        by_cases h4 : F - 128 = 1
        · rw [h4] at hs
          obtain ⟨b1, o1, e1, g1⟩ := hB.cellAt (j := 1) (by omega)
          injection e1 with e1
          injection e1 with e3 e4
          subst e3 e4
          have g1 : w.cell? ⟨b, o + 1, none⟩ = some (.int .u8 ((at' bs 1 : Nat) : Int)) := g1
          by_cases h5 : at' bs (0 + 1) < 128
          · rw [if_pos ⟨h4, h5⟩] at fin ⊢
            exact fin ⟨false, rfl⟩ (head_text_form w n c b o F (by omega) h2 hc hn1 (at' bs 1) h5 (by omega) g1 hs)
          · rw [if_neg (fun h => h5 h.2)] at fin ⊢
            exact fin (by rw [h4]; rfl) (head_text_one w n c b o F (by omega) h2 hc hn1 (at' bs 1) (Nat.not_lt.1 h5) (by omega) g1 hs)
        · rw [if_neg (fun h => h4 h.1)] at fin ⊢
          exact fin rfl (head_text_ok w n c b o F (by omega) h2 hc hn1 (F - 128) h4 hs)
    · rw [if_neg h2] at fin ⊢
      by_cases h3 : F < 192
      · rw [if_pos h3] at fin ⊢
        have e : ((F : Int) - 183) = ((F - 183 : Nat) : Int) := by omega
        obtain ⟨s, q, er, h4, h5⟩ := long_hd w n c (F - 183) b o bs hB hn1 hn2 (by omega) (by omega) false
        exact fin h4 (head_long w n c b o F (by omega) h3 hc hn1 false s q er (by rw [e]; exact h5))
      · rw [if_neg h3] at fin ⊢
        by_cases h4 : F ≤ 247
        · rw [if_pos h4] at fin ⊢
          have e : ((F : Int) - 192) = ((F - 192 : Nat) : Int) := by omega
          by_cases h5 : n < 0 + 1 + (F - 192)
          · rw [if_pos h5] at fin ⊢
            exact fin ⟨true, rfl⟩ (head_list w n c b o F (by omega) h4 hc hn1 false 0 0 (eN 11) fun y hy => by rw [e]; exact short_end y n c (F - 192) _ hn1 (by omega) (by omega))
          · rw [if_neg h5] at fin ⊢
            exact fin rfl (head_list w n c b o F (by omega) h4 hc hn1 false 1 (F - 192 : Nat) .nilIface fun y hy => by rw [e]; exact short_ok y n c (F - 192) _ hn1 hn2 (by omega))
        · rw [if_neg h4] at fin ⊢
          have e : ((F : Int) - 247) = ((F - 247 : Nat) : Int) := by omega
          obtain ⟨s, q, er, h5, h6⟩ := long_hd w n c (F - 247) b o bs hB hn1 hn2 (by omega) (by omega) true
          exact fin h5 (head_biglist w n c b o F (by omega) hF8 hc hn1 false s q er (by rw [e]; exact h6))
end Rl
end Go.Proofs.YthlmjcochpodgaaDoor
namespace Go.Proofs.YthlmjcochpodgaaDoor
set_option linter.unusedVariables false
namespace Rl
theorem at_in {b : List Bt} {i m j : Nat} (h : j < m) : at' (slc b i m) j = at' b (i + j) := by
  unfold at' slc
  rw [List.getD_eq_getElem?_getD, List.getElem?_take, if_pos h, List.getElem?_drop, List.getD_eq_getElem?_getD]
theorem slc_in {b : List Bt} {i m j k : Nat} (h : j + k ≤ m) : slc (slc b i m) j k = slc b (i + j) k := by
  unfold slc
  rw [List.drop_take, List.take_take, List.drop_drop, Nat.min_eq_left (by omega)]
theorem hdL_slc {b : List Bt} {i e k : Nat} {l : Bool} (hi : i < e) (hk : 1 ≤ k) : hdL (slc b i (e - i)) 0 (e - i) k l = hdL b i e k l := by
  unfold hdL
  by_cases h1 : e < i + 1 + k
  · rw [if_pos h1, if_pos (by omega)]
  · rw [if_neg h1, if_neg (by omega)]
    have e1 : slc (slc b i (e - i)) (0 + 1) k = slc b (i + 1) k := by rw [slc_in (by omega)]
    have e2 : at' (slc b i (e - i)) (0 + 1) = at' b (i + 1) := by rw [at_in (by omega)]
    rw [e1, e2]
    by_cases h2 : e < i + 1 + k + num 0 (slc b (i + 1) k)
    · rw [if_pos h2, if_pos (by omega)]
    · rw [if_neg h2, if_neg (by omega)]
theorem hd_slc {b : List Bt} {i e : Nat} (hi : i < e) : hd (slc b i (e - i)) 0 (e - i) = hd b i e := by
  have e0 : at' (slc b i (e - i)) 0 = at' b i := by rw [at_in (by omega)]; rfl
  unfold hd
  rw [e0]
  by_cases h1 : at' b i < 128
  · rw [if_pos h1, if_pos h1]
  · rw [if_neg h1, if_neg h1]
    by_cases h2 : at' b i ≤ 183
    · rw [if_pos h2, if_pos h2]
      by_cases h3 : e < i + 1 + (at' b i - 128)
      · rw [if_pos h3, if_pos (by omega)]
      · rw [if_neg h3, if_neg (by omega)]
        by_cases h4 : at' b i - 128 = 1
        · have e2 : at' (slc b i (e - i)) (0 + 1) = at' b (i + 1) := by rw [at_in (by omega)]
          rw [e2]
        · rw [if_neg (fun h => h4 h.1), if_neg (fun h => h4 h.1)]
    · rw [if_neg h2, if_neg h2]
      by_cases h3 : at' b i < 192
      · rw [if_pos h3, if_pos h3]; exact hdL_slc hi (by omega)
      · rw [if_neg h3, if_neg h3]
        by_cases h4 : at' b i ≤ 247
        · rw [if_pos h4, if_pos h4]
          by_cases h5 : e < i + 1 + (at' b i - 192)
          · rw [if_pos h5, if_pos (by omega)]
          · rw [if_neg h5, if_neg (by omega)]
        · rw [if_neg h4, if_neg h4]; exact hdL_slc hi (by omega)
end Rl
end Go.Proofs.YthlmjcochpodgaaDoor
