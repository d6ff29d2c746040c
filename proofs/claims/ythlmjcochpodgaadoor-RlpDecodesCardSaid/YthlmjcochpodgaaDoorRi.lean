/-
  mootref03: Deep, Right. Own work.
-/
import Derived.Test.YthlmjcochpodgaaDoorRh
namespace Go.Proofs.YthlmjcochpodgaaDoor
open Go.ChangeShapes Go.WideShapes Go.Deep Go.RowKit
set_option linter.unusedVariables false
set_option linter.unusedSimpArgs false
namespace Rl
set_option maxHeartbeats 1000000 in
set_option maxRecDepth 100000 in
theorem rdeep_zero (w : World) (l : Bool) (n c n' c' : Nat) (a a' : Option Addr) :
    Calls Tryd.prog 34 #[.agg #[.bool l, .slice a n c, .slice a' n' c'], .int .i64 0] w fun e w' => e = .returned (.bool true) ∧ Below w.heap.size w w' := by
  go_enter Tryd.func34, Tryd.ntmps34
  go_wp2_with (fail)
  go_ret
  exact ⟨rfl, (Below.refl _ _).alloc (Nat.le_refl _) _⟩
set_option maxHeartbeats 2000000 in
set_option maxRecDepth 100000 in
theorem rdeep_step (m : Nat) (hm : m < 100) (ih : ∀ (w : World) (l : Bool) (n c n' c' : Nat) (a a' : Option Addr) (k : Fo), IsK w a' n' c' k → Calls Tryd.prog 34 #[.agg #[.bool l, .slice a n c, .slice a' n' c'], .int .i64 m] w fun e w' => e = .returned (.bool (dp k m)) ∧ Below w.heap.size w w')
    (w : World) (l : Bool) (n c n' c' : Nat) (a a' : Option Addr) (k : Fo) (hk : IsK w a' n' c' k) :
    Calls Tryd.prog 34 #[.agg #[.bool l, .slice a n c, .slice a' n' c'], .int .i64 (m + 1 : Nat)] w fun e w' => e = .returned (.bool (dp k (m + 1))) ∧ Below w.heap.size w w' := by
  have HK := Lib.hid hk
  clear hk
  have hne : ((m : Int) + 1 == 0) = false := by
    have : ¬ (m : Int) + 1 = 0 := by omega
    simpa using this
  rw [show ((m + 1 : Nat) : Int) = (m : Int) + 1 from rfl]
  go_enter Tryd.func34, Tryd.ntmps34
  go_wp2_with (fail)
  have HB : Hid (Below w.heap.size w (w.alloc (.cells #[.bool l, .slice a n c, .slice a' n' c'] 25)) ∧ (w.alloc (.cells #[.bool l, .slice a n c, .slice a' n' c'] 25)).cell? ⟨w.heap.size, 2, none⟩ = some (.slice a' n' c')) := Lib.hid ⟨(Below.refl _ _).alloc (Nat.le_refl _) _, by simp⟩
  generalize w.alloc (.cells #[.bool l, .slice a n c, .slice a' n' c'] 25) = y0 at *
  have HN : Hid (n' ≤ maxLen) := Lib.hid (by have := HK.out; exact Nat.le_trans this.2.1 this.2.2.1)
  go_loopw [5] (fun i y => ∃ j : Nat, j ≤ n' ∧ i = .int .i64 j ∧ Hid (k.deep m = (k.drop j).deep m ∧ Below w.heap.size w y ∧ y.cell? ⟨w.heap.size, 2, none⟩ = some (.slice a' n' c'))) (fun i _ => n' - (intOf i).toNat)
  case atStart => exact ⟨0, Nat.zero_le _, rfl, Lib.hid ⟨by rw [Fo.drop_zero], HB.out.1, HB.out.2⟩⟩
  case round =>
    obtain ⟨j, hj, rfl, hp⟩ := hrel
    clear HB
    have gb := hp.out.2.2
    by_cases hlt : (j : Int) < (n' : Int)
    · obtain ⟨b, o, l1, bs, k1, a1, n1, c1, a2, n2, c2, rfl, hd, hb1, hk1, g0, g1, g2⟩ := (HK.out.keep (keep_below hp.out.2.1)).at (show j < n' by omega)
      have HD := Lib.hid hd
      have HS := Lib.hid hp.out.2.1
      have HC := Lib.hid (ih wr l1 n1 c1 n2 c2 a1 a2 k1 hk1)
      have HE := Lib.hid hp.out.1
      have HJ := Lib.hid (show j < n' ∧ wrap64 ((j : Int) + 1) = ((j + 1 : Nat) : Int) by refine ⟨by omega, ?_⟩; have := HN.out; simp only [maxLen] at this; unfold wrap64; omega)
      have HW := Lib.hid (show wrap64 (m : Int) = m by unfold wrap64; omega)
      clear hk1 ih hp hm hj hd hb1
      generalize hdp : dp k1 m = D at *
      have HDP := Lib.hid hdp
      clear hdp
      go_wp2_with (go_at_call 34; rw [HW.out]; (with_reducible refine HC.out.mono ?_); rintro e y1 ⟨rfl, hb⟩; have H1 := Lib.hid (And.intro (bl HS.out hb) (keep1 hb gb)); clear hb HC g0 g1 g2 gb HS hlt)
      · go_ret
        refine ⟨?_, H1.out.1⟩
        show Ending.returned (.bool true) = .returned (.bool (k.deep m))
        rw [HE.out, HD.out]
        show Ending.returned (.bool true) = .returned (.bool (dp k1 m || (k.drop (j + 1)).deep m))
        rw [HDP.out, ‹D = true›]; rfl
      · go_roundw
        case rel => exact ⟨j + 1, HJ.out.1, by rw [HJ.out.2], Lib.hid ⟨by rw [HE.out, HD.out]; show (dp k1 m || (k.drop (j + 1)).deep m) = _; rw [HDP.out, ‹D = false›]; rfl, H1.out.1, H1.out.2⟩⟩
        case measure => rw [HJ.out.2]; have := HJ.out.1; simp [intOf]; omega
    · go_wp2_with (fail)
      go_ret
      refine ⟨?_, hp.out.2.1⟩
      show Ending.returned (.bool false) = .returned (.bool (k.deep m))
      rw [hp.out.1, Fo.drop_end (by have := HK.out.1; omega)]; rfl
theorem rdeep_walk : ∀ (m : Nat), m ≤ 100 → ∀ (w : World) (l : Bool) (n c n' c' : Nat) (a a' : Option Addr) (k : Fo), IsK w a' n' c' k →
    Calls Tryd.prog 34 #[.agg #[.bool l, .slice a n c, .slice a' n' c'], .int .i64 m] w fun e w' => e = .returned (.bool (dp k m)) ∧ Below w.heap.size w w' := by
  intro m
  induction m with
  | zero => intro _ w l n c n' c' a a' k _; exact rdeep_zero w l n c n' c' a a'
  | succ m ih => intro hm w l n c n' c' a a' k hk; exact rdeep_step m (by omega) (ih (by omega)) w l n c n' c' a a' k hk
set_option maxHeartbeats 1000000 in
set_option maxRecDepth 100000 in
theorem rright_no (w : World) (l : Bool) (n c n' c' : Nat) (a a' : Option Addr) (h : if l then (0 : Int) < n else (0 : Int) < n') :
    Calls Tryd.prog 35 #[.agg #[.bool l, .slice a n c, .slice a' n' c']] w fun e w' => e = .returned (.bool false) ∧ Below w.heap.size w w' := by
  cases l with
  | true =>
    have h1 : (0 : Int) < n := h
    clear h
    go_enter Tryd.func35, Tryd.ntmps35
    go_wp2_with (fail)
    go_ret
    exact ⟨rfl, (Below.refl _ _).alloc (Nat.le_refl _) _⟩
  | false =>
    have h1 : (0 : Int) < n' := h
    clear h
    go_enter Tryd.func35, Tryd.ntmps35
    go_wp2_with (fail)
    go_ret
    exact ⟨rfl, (Below.refl _ _).alloc (Nat.le_refl _) _⟩
set_option maxHeartbeats 2000000 in
set_option maxRecDepth 100000 in
theorem rright_list (w : World) (c n' c' : Nat) (a a' : Option Addr) (k : Fo) (hk : IsK w a' n' c' k) (hw : whole true 0 k = k.right)
    (ih : ∀ (w : World) (l : Bool) (n c n' c' : Nat) (a a' : Option Addr) (k1 : Fo), k1.size < k.size → IsK w a' n' c' k1 → Calls Tryd.prog 35 #[.agg #[.bool l, .slice a n c, .slice a' n' c']] w fun e w' => e = .returned (.bool (whole l n k1)) ∧ Below w.heap.size w w') :
    Calls Tryd.prog 35 #[.agg #[.bool true, .slice a 0 c, .slice a' n' c']] w fun e w' => e = .returned (.bool k.right) ∧ Below w.heap.size w w' := by
  have HK := Lib.hid hk
  have HI := Lib.hid ih
  clear hk ih hw
  have HB : Hid (Below w.heap.size w (w.alloc (.cells #[.bool true, .slice a 0 c, .slice a' n' c'] 25)) ∧ (w.alloc (.cells #[.bool true, .slice a 0 c, .slice a' n' c'] 25)).cell? ⟨w.heap.size, 2, none⟩ = some (.slice a' n' c')) := Lib.hid ⟨(Below.refl _ _).alloc (Nat.le_refl _) _, by simp⟩
  have HN : Hid (n' ≤ maxLen) := Lib.hid (by have := HK.out; exact Nat.le_trans this.2.1 this.2.2.1)
  go_enter Tryd.func35, Tryd.ntmps35
  go_wp2_with (fail)
  generalize w.alloc (.cells #[.bool true, .slice a 0 c, .slice a' n' c'] 25) = y0 at *
  go_loopw [3] (fun i y => ∃ j : Nat, j ≤ n' ∧ i = .int .i64 j ∧ Hid (k.right = (k.drop j).right ∧ Below w.heap.size w y ∧ y.cell? ⟨w.heap.size, 2, none⟩ = some (.slice a' n' c'))) (fun i _ => n' - (intOf i).toNat)
  case atStart => exact ⟨0, Nat.zero_le _, rfl, Lib.hid ⟨by rw [Fo.drop_zero], HB.out.1, HB.out.2⟩⟩
  case round =>
    obtain ⟨j, hj, rfl, hp⟩ := hrel
    clear HB
    have gb := hp.out.2.2
    by_cases hlt : (j : Int) < (n' : Int)
    · obtain ⟨b, o, l1, bs, k1, a1, n1, c1, a2, n2, c2, rfl, hd, hb1, hk1, g0, g1, g2⟩ := (HK.out.keep (keep_below hp.out.2.1)).at (show j < n' by omega)
      have HD := Lib.hid hd
      have HS := Lib.hid hp.out.2.1
      have HC := Lib.hid (HI.out wr l1 n1 c1 n2 c2 a1 a2 k1 (Fo.drop_kid hd) hk1)
      have HE := Lib.hid hp.out.1
      have HJ := Lib.hid (show j < n' ∧ wrap64 ((j : Int) + 1) = ((j + 1 : Nat) : Int) by refine ⟨by omega, ?_⟩; have := HN.out; simp only [maxLen] at this; unfold wrap64; omega)
      have HNb := Lib.hid hb1.1
      clear hd hb1 hk1 hp hj
      generalize hdp : whole l1 n1 k1 = D at *
      have HDP := Lib.hid hdp
      clear hdp
      go_wp2_with (go_at_call 35; (with_reducible refine HC.out.mono ?_); rintro e y1 ⟨rfl, hb⟩; have H1 := Lib.hid (And.intro (bl HS.out hb) (keep1 hb gb)); clear hb HC g0 g1 g2 gb HS hlt)
      · go_ret
        refine ⟨?_, H1.out.1⟩
        rw [HE.out, HD.out, whole_right, ← HNb.out, HDP.out, show D = false by simpa using ‹(!D) = true›]; rfl
      · go_roundw
        case rel => exact ⟨j + 1, HJ.out.1, by rw [HJ.out.2], Lib.hid ⟨by rw [HE.out, HD.out, whole_right, ← HNb.out, HDP.out, show D = true by simpa using ‹(!D) = false›]; rfl, H1.out.1, H1.out.2⟩⟩
        case measure => rw [HJ.out.2]; have := HJ.out.1; simp [intOf]; omega
    · go_wp2_with (fail)
      go_ret
      refine ⟨?_, hp.out.2.1⟩
      rw [hp.out.1, Fo.drop_end (by have := HK.out.1; omega)]; rfl
set_option maxHeartbeats 1000000 in
set_option maxRecDepth 100000 in
theorem rright_text (w : World) (n c c' : Nat) (a a' : Option Addr) :
    Calls Tryd.prog 35 #[.agg #[.bool false, .slice a n c, .slice a' 0 c']] w fun e w' => e = .returned (.bool true) ∧ Below w.heap.size w w' := by
  go_enter Tryd.func35, Tryd.ntmps35
  go_wp2_with (fail)
  go_loopw [3] (fun i y => i = .int .i64 0 ∧ y = w.alloc (.cells #[.bool false, .slice a n c, .slice a' 0 c'] 25)) (fun _ _ => 0)
  case atStart => exact ⟨rfl, rfl⟩
  case round =>
    obtain ⟨rfl, rfl⟩ := hrel
    go_wp2_with (fail)
    go_ret
    exact ⟨rfl, (Below.refl _ _).alloc (Nat.le_refl _) _⟩
theorem rright_walk (w : World) (l : Bool) (n c n' c' : Nat) (a a' : Option Addr) (k : Fo) (hk : IsK w a' n' c' k) :
    Calls Tryd.prog 35 #[.agg #[.bool l, .slice a n c, .slice a' n' c']] w fun e w' => e = .returned (.bool (whole l n k)) ∧ Below w.heap.size w w' := by
  generalize hz : k.size = z at *
  induction z using Nat.strongRecOn generalizing w l n c n' c' a a' k with
  | _ z ih =>
    subst hz
    have hl := hk.1
    cases l with
    | true =>
      by_cases h0 : n = 0
      · subst h0
        have e : whole true 0 k = k.right := by unfold whole; rfl
        rw [e]
        exact rright_list w c n' c' a a' k hk e fun w l n c n' c' a a' k1 h1 h2 => ih k1.size h1 w l n c n' c' a a' k1 h2 rfl
      · have e : whole true n k = false := by
          unfold whole
          have : ((n : Int) == 0) = false := by simpa using (show ¬ (n : Int) = 0 by omega)
          simp [this]
        rw [e]
        exact rright_no w true n c n' c' a a' (show (0 : Int) < n by omega)
    | false =>
      by_cases h0 : n' = 0
      · subst h0
        have hnil : k = .nil := len_zero (by rw [← hl]; rfl)
        subst hnil
        exact rright_text w n c c' a a'
      · have e : whole false n k = false := by
          unfold whole
          have : ((k.len : Int) == 0) = false := by simpa using (show ¬ (k.len : Int) = 0 by omega)
          simp [this]
        rw [e]
        exact rright_no w false n c n' c' a a' (show (0 : Int) < n' by omega)
end Rl
end Go.Proofs.YthlmjcochpodgaaDoor
