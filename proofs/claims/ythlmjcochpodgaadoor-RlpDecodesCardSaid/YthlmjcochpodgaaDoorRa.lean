/-
  rlp: the parts' own test, deeper, every. Own work.
-/
import Derived.WalkKit
import Derived.Lib.Hide
import Derived.Test.YthlmjcochpodgaaDoorFo
namespace Go.Proofs.YthlmjcochpodgaaDoor
open Go.ChangeShapes Go.WideShapes Go.Deep Go.RowKit
set_option linter.unusedVariables false
set_option linter.unusedSimpArgs false
namespace Rl
def Fo.drop : Fo → Nat → Fo
  | k, 0 => k
  | .nil, _ + 1 => .nil
  | .cons _ _ _ r, j + 1 => r.drop j
theorem Fo.drop_zero (k : Fo) : k.drop 0 = k := by cases k <;> rfl
theorem Fo.drop_len : ∀ (k : Fo) (j : Nat), (k.drop j).len = k.len - j
  | k, 0 => by rw [Fo.drop_zero]; omega
  | .nil, j + 1 => by show 0 = 0 - (j + 1); omega
  | .cons _ _ _ r, j + 1 => by show (r.drop j).len = r.len + 1 - (j + 1); rw [Fo.drop_len r j]; omega
theorem Fo.drop_end {k : Fo} {j : Nat} (h : k.len ≤ j) : k.drop j = .nil := by
  have := Fo.drop_len k j
  cases e : k.drop j with
  | nil => rfl
  | cons l b k1 r =>
    rw [e] at this
    have h2 : r.len + 1 = k.len - j := this
    omega
theorem Fo.drop_succ : ∀ (k : Fo) (j : Nat) {l b k1 r}, k.drop j = .cons l b k1 r → k.drop (j + 1) = r
  | .nil, 0, _, _, _, _, h => by cases h
  | .nil, j + 1, _, _, _, _, h => by cases h
  | .cons _ _ _ r, 0, _, _, _, _, h => by
    rw [Fo.drop_zero] at h; injection h with h1 h2 h3 h4; subst h4; exact Fo.drop_zero _
  | .cons _ _ _ r, j + 1, _, _, _, _, h => Fo.drop_succ r j h
theorem IsFo.drop {w : World} : ∀ (k : Fo) (j b o : Nat), IsFo w k b o → IsFo w (k.drop j) b (o + 3 * j)
  | k, 0, b, o, h => by rw [Fo.drop_zero]; simpa using h
  | .nil, j + 1, b, o, h => trivial
  | .cons l bs k r, j + 1, b, o, ⟨_, _, _, h⟩ => by
    have := IsFo.drop r j b (o + 3) h
    rw [show o + 3 + 3 * j = o + 3 * (j + 1) by omega] at this
    exact this
/-- The item at a place of a slice of items. -/
theorem IsK.at {w : World} {a : Option Addr} {n c : Nat} {k : Fo} (h : IsK w a n c k) {j : Nat} (hj : j < n) :
    ∃ b o l bs k1 a1 n1 c1 a2 n2 c2, a = some ⟨b, o, none⟩ ∧ k.drop j = .cons l bs k1 (k.drop (j + 1)) ∧ IsB w a1 n1 c1 bs ∧ IsK w a2 n2 c2 k1 ∧
      w.cell? ⟨b, o + j * 3, none⟩ = some (.bool l) ∧ w.cell? ⟨b, o + j * 3 + 1, none⟩ = some (.slice a1 n1 c1) ∧ w.cell? ⟨b, o + j * 3 + 2, none⟩ = some (.slice a2 n2 c2) := by
  obtain ⟨h1, h2, h3, h4, h5⟩ := h
  rcases h5 with h5 | ⟨b, o, ha, hf⟩
  · omega
  · have hd := IsFo.drop k j b o hf
    have hl := Fo.drop_len k j
    cases e : k.drop j with
    | nil =>
      rw [e] at hl
      have : 0 = k.len - j := hl
      omega
    | cons l bs k1 r =>
      rw [e] at hd
      obtain ⟨g1, ⟨a1, n1, c1, g2, g3⟩, ⟨a2, n2, c2, g4, g5⟩, g6⟩ := hd
      rw [Nat.mul_comm 3 j] at g1 g2 g4
      exact ⟨b, o, l, bs, k1, a1, n1, c1, a2, n2, c2, ha, by rw [Fo.drop_succ k j e], g3, g5, g1, g2, g4⟩
theorem cells25 : Tryd.prog.cellsOf 25 = 3 := by kernel_rfl
def dp (k : Fo) : Nat → Bool
  | 0 => true
  | m + 1 => k.deep m
set_option maxHeartbeats 1000000 in
set_option maxRecDepth 100000 in
theorem own_walk (w : World) (l : Bool) (n c n' c' : Nat) (a a' : Option Addr) :
    Calls Tryd.prog 28 #[.agg #[.bool l, .slice a n c, .slice a' n' c']] w fun e w' => e = .returned (.bool (if l then (n : Int) == 0 else (n' : Int) == 0)) ∧ Below w.heap.size w w' := by
  cases l with
  | true =>
    go_enter Tryd.func28, Tryd.ntmps28
    go_wp2_with (fail)
    go_ret
    exact ⟨rfl, (Below.refl _ _).alloc (Nat.le_refl _) _⟩
  | false =>
    go_enter Tryd.func28, Tryd.ntmps28
    go_wp2_with (fail)
    go_ret
    exact ⟨rfl, (Below.refl _ _).alloc (Nat.le_refl _) _⟩
set_option maxHeartbeats 1000000 in
set_option maxRecDepth 100000 in
theorem deeper_zero (w : World) (l : Bool) (n c n' c' : Nat) (a a' : Option Addr) :
    Calls Tryd.prog 26 #[.agg #[.bool l, .slice a n c, .slice a' n' c'], .int .i64 0] w fun e w' => e = .returned (.bool true) ∧ Below w.heap.size w w' := by
  go_enter Tryd.func26, Tryd.ntmps26
  go_wp2_with (fail)
  go_ret
  exact ⟨rfl, (Below.refl _ _).alloc (Nat.le_refl _) _⟩
set_option maxHeartbeats 2000000 in
set_option maxRecDepth 100000 in
theorem deeper_step (m : Nat) (hm : m < 100) (ih : ∀ (w : World) (l : Bool) (n c n' c' : Nat) (a a' : Option Addr) (k : Fo), IsK w a' n' c' k → Calls Tryd.prog 26 #[.agg #[.bool l, .slice a n c, .slice a' n' c'], .int .i64 m] w fun e w' => e = .returned (.bool (dp k m)) ∧ Below w.heap.size w w')
    (w : World) (l : Bool) (n c n' c' : Nat) (a a' : Option Addr) (k : Fo) (hk : IsK w a' n' c' k) :
    Calls Tryd.prog 26 #[.agg #[.bool l, .slice a n c, .slice a' n' c'], .int .i64 (m + 1 : Nat)] w fun e w' => e = .returned (.bool (dp k (m + 1))) ∧ Below w.heap.size w w' := by
  have HK := Lib.hid hk
  clear hk
  have hne : ((m : Int) + 1 == 0) = false := by
    have : ¬ (m : Int) + 1 = 0 := by omega
    simpa using this
  rw [show ((m + 1 : Nat) : Int) = (m : Int) + 1 from rfl]
  go_enter Tryd.func26, Tryd.ntmps26
  go_wp2_with (fail)
  have HB : Hid (Below w.heap.size w (w.alloc (.cells #[.bool l, .slice a n c, .slice a' n' c'] 25))) := Lib.hid ((Below.refl _ _).alloc (Nat.le_refl _) _)
  generalize w.alloc (.cells #[.bool l, .slice a n c, .slice a' n' c'] 25) = y0 at *
  have HN : Hid (n' ≤ maxLen) := Lib.hid (by have := HK.out; exact Nat.le_trans this.2.1 this.2.2.1)
  go_loopw [12] (fun i y => ∃ j : Nat, j ≤ n' ∧ i = .int .i64 j ∧ Hid (k.deep m = (k.drop j).deep m ∧ Below w.heap.size w y)) (fun i _ => n' - (intOf i).toNat)
  case atStart => exact ⟨0, Nat.zero_le _, rfl, Lib.hid ⟨by rw [Fo.drop_zero], HB.out⟩⟩
  case round =>
    obtain ⟨j, hj, rfl, hp⟩ := hrel
    clear HB
    by_cases hlt : (j : Int) < (n' : Int)
    · obtain ⟨b, o, l1, bs, k1, a1, n1, c1, a2, n2, c2, rfl, hd, hb1, hk1, g0, g1, g2⟩ := (HK.out.keep (keep_below hp.out.2)).at (show j < n' by omega)
      have HD := Lib.hid hd
      have HK1 := Lib.hid hk1
      clear hd hb1 hk1
      have hjm : (j : Int) < 9223372036854775807 := by have := HN.out; simp only [maxLen] at this; omega
      have HS := Lib.hid (bl hp.out.2 ((Below.refl wr.heap.size wr).alloc (Nat.le_refl _) (.cells #[.bool l1, .slice a1 n1 c1, .slice a2 n2 c2] 25)))
      have HC := Lib.hid (ih _ l1 n1 c1 n2 c2 a1 a2 k1 (HK1.out.keep (keep_below ((Below.refl wr.heap.size wr).alloc (Nat.le_refl _) (.cells #[.bool l1, .slice a1 n1 c1, .slice a2 n2 c2] 25)))))
      have HE := Lib.hid hp.out.1
      have HJ := Lib.hid (show j < n' ∧ wrap64 ((j : Int) + 1) = ((j + 1 : Nat) : Int) by refine ⟨by omega, ?_⟩; unfold wrap64; omega)
      have HW := Lib.hid (show wrap64 (m : Int) = m by unfold wrap64; omega)
      clear HK1 ih hp hm hj
      generalize hdp : dp k1 m = D at *
      have HDP := Lib.hid hdp
      clear hdp
      go_wp2_with (go_at_call 26; rw [HW.out]; (with_reducible refine HC.out.mono ?_); rintro e y1 ⟨rfl, hb⟩; have H1 := Lib.hid (bl HS.out hb); clear hb HC g0 g1 g2 HS hlt hjm)
      · go_ret
        refine ⟨?_, H1.out⟩
        show Ending.returned (.bool true) = .returned (.bool (k.deep m))
        rw [HE.out, HD.out]
        show Ending.returned (.bool true) = .returned (.bool (dp k1 m || (k.drop (j + 1)).deep m))
        rw [HDP.out, ‹D = true›]; rfl
      · go_roundw
        case rel => exact ⟨j + 1, HJ.out.1, by rw [HJ.out.2], Lib.hid ⟨by rw [HE.out, HD.out]; show (dp k1 m || (k.drop (j + 1)).deep m) = _; rw [HDP.out, ‹D = false›]; rfl, H1.out⟩⟩
        case measure => rw [HJ.out.2]; have := HJ.out.1; simp [intOf]; omega
    · go_wp2_with (fail)
      go_ret
      refine ⟨?_, hp.out.2⟩
      show Ending.returned (.bool false) = .returned (.bool (k.deep m))
      rw [hp.out.1, Fo.drop_end (by have := HK.out.1; omega)]; rfl
theorem deeper_walk : ∀ (m : Nat), m ≤ 100 → ∀ (w : World) (l : Bool) (n c n' c' : Nat) (a a' : Option Addr) (k : Fo), IsK w a' n' c' k →
    Calls Tryd.prog 26 #[.agg #[.bool l, .slice a n c, .slice a' n' c'], .int .i64 m] w fun e w' => e = .returned (.bool (dp k m)) ∧ Below w.heap.size w w' := by
  intro m
  induction m with
  | zero => intro _ w l n c n' c' a a' k _; exact deeper_zero w l n c n' c' a a'
  | succ m ih => intro hm w l n c n' c' a a' k hk; exact deeper_step m (by omega) (ih (by omega)) w l n c n' c' a a' k hk
theorem Fo.drop_size : ∀ (k : Fo) (j : Nat), (k.drop j).size ≤ k.size
  | k, 0 => by rw [Fo.drop_zero]; exact Nat.le_refl _
  | .nil, j + 1 => Nat.le_refl _
  | .cons _ _ k r, j + 1 => by
    have := Fo.drop_size r j
    show (r.drop j).size ≤ k.size + r.size + 2
    omega
theorem Fo.drop_kid {k : Fo} {j : Nat} {l b k1 r} (h : k.drop j = .cons l b k1 r) : k1.size < k.size := by
  have := Fo.drop_size k j
  rw [h] at this
  have h2 : k1.size + r.size + 2 ≤ k.size := this
  omega
/-- Is an item one, to the bottom? -/
def whole (l : Bool) (n : Nat) (k : Fo) : Bool := (if l then (n : Int) == 0 else (k.len : Int) == 0) && k.right
theorem whole_right (l : Bool) (bs : List Bt) (k r : Fo) : (Fo.cons l bs k r).right = (whole l bs.length k && r.right) := by
  unfold whole
  show ((if l then bs.isEmpty else k.len == 0) && k.right && r.right) = _
  congr 2
  cases l
  · show (k.len == 0) = ((k.len : Int) == 0)
    rw [Bool.eq_iff_iff]; simp; 
  · show bs.isEmpty = ((bs.length : Int) == 0)
    rw [Bool.eq_iff_iff]; simp
set_option maxHeartbeats 2000000 in
set_option maxRecDepth 100000 in
theorem every_step (w : World) (l : Bool) (n c n' c' : Nat) (a a' : Option Addr) (k : Fo) (hk : IsK w a' n' c' k)
    (ih : ∀ (w : World) (l : Bool) (n c n' c' : Nat) (a a' : Option Addr) (k1 : Fo), k1.size < k.size → IsK w a' n' c' k1 → Calls Tryd.prog 27 #[.agg #[.bool l, .slice a n c, .slice a' n' c'], .func (.func 28) #[] #[]] w fun e w' => e = .returned (.bool (whole l n k1)) ∧ Below w.heap.size w w') :
    Calls Tryd.prog 27 #[.agg #[.bool l, .slice a n c, .slice a' n' c'], .func (.func 28) #[] #[]] w fun e w' => e = .returned (.bool (whole l n k)) ∧ Below w.heap.size w w' := by
  have HK := Lib.hid hk
  have HI := Lib.hid ih
  clear hk ih
  have HO := Lib.hid (own_walk (w.alloc (.cells #[.bool l, .slice a n c, .slice a' n' c'] 25)) l n c n' c' a a')
  have HB : Hid (Below w.heap.size w (w.alloc (.cells #[.bool l, .slice a n c, .slice a' n' c'] 25))) := Lib.hid ((Below.refl _ _).alloc (Nat.le_refl _) _)
  have HN : Hid (n' ≤ maxLen) := Lib.hid (by have := HK.out; exact Nat.le_trans this.2.1 this.2.2.1)
  generalize hq : (if l then (n : Int) == 0 else (n' : Int) == 0) = q at *
  have HQ : Hid (whole l n k = (q && k.right)) := Lib.hid (by rw [← hq]; unfold whole; rw [show k.len = n' from HK.out.1.symm])
  clear hq
  go_enter Tryd.func27, Tryd.ntmps27
  go_wp2_with (go_at_call 28; (with_reducible refine HO.out.mono ?_); rintro e y0 ⟨rfl, hb⟩; have H0 := Lib.hid (bl HB.out hb); have HC0 := keep1 hb (o := 2) (b := w.heap.size) (x := .slice a' n' c') (by simp); clear hb)
  · go_ret
    refine ⟨?_, H0.out⟩
    rw [HQ.out, show q = false by simpa using ‹(!q) = true›]; rfl
  · have HQ1 : Hid (whole l n k = k.right) := Lib.hid (by rw [HQ.out, show q = true by simpa using ‹(!q) = false›]; rfl)
    have hq1 : q = true := by simpa using ‹(!q) = false›
    have hq2 : (!q) = false := ‹(!q) = false›
    rw [hq2]
    clear HB HO HQ hq1 hq2
    go_loopw [14] (fun i y => ∃ j : Nat, j ≤ n' ∧ i = .int .i64 j ∧ Hid (k.right = (k.drop j).right ∧ Below w.heap.size w y)) (fun i _ => n' - (intOf i).toNat)
    case atStart => exact ⟨0, Nat.zero_le _, rfl, Lib.hid ⟨by rw [Fo.drop_zero], H0.out⟩⟩
    case round =>
      obtain ⟨j, hj, rfl, hp⟩ := hrel
      clear H0 HC0
      by_cases hlt : (j : Int) < (n' : Int)
      · obtain ⟨b, o, l1, bs, k1, a1, n1, c1, a2, n2, c2, rfl, hd, hb1, hk1, g0, g1, g2⟩ := (HK.out.keep (keep_below hp.out.2)).at (show j < n' by omega)
        have HD := Lib.hid hd
        have HS := Lib.hid (bl hp.out.2 ((Below.refl wr.heap.size wr).alloc (Nat.le_refl _) (.cells #[.bool l1, .slice a1 n1 c1, .slice a2 n2 c2] 25)))
        have HC := Lib.hid (HI.out _ l1 n1 c1 n2 c2 a1 a2 k1 (Fo.drop_kid hd) (hk1.keep (keep_below ((Below.refl wr.heap.size wr).alloc (Nat.le_refl _) (.cells #[.bool l1, .slice a1 n1 c1, .slice a2 n2 c2] 25)))))
        have HE := Lib.hid hp.out.1
        have HJ := Lib.hid (show j < n' ∧ wrap64 ((j : Int) + 1) = ((j + 1 : Nat) : Int) by refine ⟨by omega, ?_⟩; have := HN.out; simp only [maxLen] at this; unfold wrap64; omega)
        have HNb := Lib.hid hb1.1
        clear hd hb1 hk1 hp hj
        generalize hdp : whole l1 n1 k1 = D at *
        have HDP := Lib.hid hdp
        clear hdp
        go_wp2_with (go_at_call 27; (with_reducible refine HC.out.mono ?_); rintro e y1 ⟨rfl, hb⟩; have H1 := Lib.hid (bl HS.out hb); clear hb HC g0 g1 g2 HS hlt)
        · go_ret
          refine ⟨?_, H1.out⟩
          rw [HQ1.out, HE.out, HD.out, whole_right, ← HNb.out, HDP.out, show D = false by simpa using ‹(!D) = true›]; rfl
        · go_roundw
          case rel => exact ⟨j + 1, HJ.out.1, by rw [HJ.out.2], Lib.hid ⟨by rw [HE.out, HD.out, whole_right, ← HNb.out, HDP.out, show D = true by simpa using ‹(!D) = false›]; rfl, H1.out⟩⟩
          case measure => rw [HJ.out.2]; have := HJ.out.1; simp [intOf]; omega
      · go_wp2_with (fail)
        go_ret
        refine ⟨?_, hp.out.2⟩
        rw [HQ1.out, hp.out.1, Fo.drop_end (by have := HK.out.1; omega)]; rfl
theorem every_walk (w : World) (l : Bool) (n c n' c' : Nat) (a a' : Option Addr) (k : Fo) (hk : IsK w a' n' c' k) :
    Calls Tryd.prog 27 #[.agg #[.bool l, .slice a n c, .slice a' n' c'], .func (.func 28) #[] #[]] w fun e w' => e = .returned (.bool (whole l n k)) ∧ Below w.heap.size w w' := by
  generalize hs : k.size = s at *
  induction s using Nat.strongRecOn generalizing w l n c n' c' a a' k with
  | _ s ih =>
    subst hs
    exact every_step w l n c n' c' a a' k hk fun w l n c n' c' a a' k1 h1 h2 => ih k1.size h1 w l n c n' c' a a' k1 h2 rfl
end Rl
end Go.Proofs.YthlmjcochpodgaaDoor
