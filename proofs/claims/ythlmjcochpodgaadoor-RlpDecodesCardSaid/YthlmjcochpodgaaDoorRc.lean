/-
  rlp: single, content and size. Own work.
-/
import Derived.Test.YthlmjcochpodgaaDoorRb
namespace Go.Proofs.YthlmjcochpodgaaDoor
open Go.ChangeShapes Go.WideShapes Go.Deep Go.RowKit
set_option linter.unusedVariables false
set_option linter.unusedSimpArgs false
namespace Rl
set_option maxHeartbeats 1000000 in
set_option maxRecDepth 100000 in
theorem single_list (w : World) (n c n' c' : Nat) (a a' : Option Addr) :
    Calls Tryd.prog 42 #[.agg #[.bool true, .slice a n c, .slice a' n' c']] w fun e w' => e = .returned (.bool false) ∧ Below w.heap.size w w' := by
  go_enter Tryd.func42, Tryd.ntmps42
  go_wp2_with (fail)
  go_ret
  exact ⟨rfl, (Below.refl _ _).alloc (Nat.le_refl _) _⟩
set_option maxHeartbeats 1000000 in
set_option maxRecDepth 100000 in
theorem single_long (w : World) (n c n' c' : Nat) (a a' : Option Addr) (h : n ≠ 1) :
    Calls Tryd.prog 42 #[.agg #[.bool false, .slice a n c, .slice a' n' c']] w fun e w' => e = .returned (.bool false) ∧ Below w.heap.size w w' := by
  have hne : ((n : Int) == 1) = false := by
    have : ¬ (n : Int) = 1 := by omega
    simpa using this
  clear h
  go_enter Tryd.func42, Tryd.ntmps42
  go_wp2_with (fail)
  go_ret
  exact ⟨rfl, (Below.refl _ _).alloc (Nat.le_refl _) _⟩
set_option maxHeartbeats 1000000 in
set_option maxRecDepth 100000 in
theorem single_one (w : World) (c n' c' b o : Nat) (a' : Option Addr) (x : Bt) (hc : w.cell? ⟨b, o, none⟩ = some (bvb x)) :
    Calls Tryd.prog 42 #[.agg #[.bool false, .slice (some ⟨b, o, none⟩) 1 c, .slice a' n' c']] w fun e w' => e = .returned (.bool (decide (x.toNat < 128))) ∧ Below w.heap.size w w' := by
  have hc2 := keep1 ((Below.refl w.heap.size w).alloc (Nat.le_refl _) (.cells #[.bool false, .slice (some ⟨b, o, none⟩) 1 c, .slice a' n' c'] 25)) hc
  unfold bvb at hc hc2
  go_enter Tryd.func42, Tryd.ntmps42
  go_wp2_with (fail)
  go_ret
  refine ⟨?_, (Below.refl _ _).alloc (Nat.le_refl _) _⟩
  have e : decide ((x.toNat : Int) < 128) = decide (x.toNat < 128) := by rw [decide_eq_decide]; omega
  show Ending.returned (.bool (decide ((x.toNat : Int) < 128))) = _
  rw [e]
theorem single_walk (w : World) (l : Bool) (n c n' c' : Nat) (a a' : Option Addr) (bs : List Bt) (hb : IsB w a n c bs) :
    Calls Tryd.prog 42 #[.agg #[.bool l, .slice a n c, .slice a' n' c']] w fun e w' => e = .returned (.bool (single l bs)) ∧ Below w.heap.size w w' := by
  cases l with
  | true => exact single_list w n c n' c' a a'
  | false =>
    obtain ⟨h1, h2, h3, h4, h5⟩ := hb
    match bs with
    | [x] =>
      rcases h5 with h5 | ⟨b, o, rfl, h6⟩
      · rw [h5] at h1; simp at h1
      · have h7 := h6 0 x rfl
        obtain rfl : n = 1 := h1
        exact single_one w c n' c' b o a' x h7
    | [] => exact single_long w n c n' c' a a' (by simp at h1; omega)
    | x :: y :: r => exact single_long w n c n' c' a a' (by simp at h1; omega)
/-- How many bytes stand behind those of the length, and how many in all. -/
theorem form_len (l : Bool) (b c : List Bt) : (wrap l b c).length = if single l b then b.length else (if b.length + c.length < 56 then 1 else 1 + (big (b.length + c.length)).length) + (b.length + c.length) := by
  unfold wrap
  split
  · rfl
  · rw [List.length_append, head_len, List.length_append]
set_option maxHeartbeats 1000000 in
set_option maxRecDepth 100000 in
theorem size_step (w : World) (l : Bool) (n c n' c' : Nat) (a a' : Option Addr) (s : Bool) (q R : Nat) (hq : q < 1073741824) (hR : R = if s then q else (if q < 56 then 1 else 1 + (big q).length) + q)
    (hc : ∀ w0, Below w.heap.size w w0 → Calls Tryd.prog 41 #[.agg #[.bool l, .slice a n c, .slice a' n' c']] w0 fun e w' => e = .returned (.int .i64 q) ∧ Below w0.heap.size w0 w')
    (hs : ∀ w0, Below w.heap.size w w0 → Calls Tryd.prog 42 #[.agg #[.bool l, .slice a n c, .slice a' n' c']] w0 fun e w' => e = .returned (.bool s) ∧ Below w0.heap.size w0 w') :
    Calls Tryd.prog 29 #[.agg #[.bool l, .slice a n c, .slice a' n' c']] w fun e w' => e = .returned (.int .i64 (R : Nat)) ∧ Below w.heap.size w w' := by
  have HR := Lib.hid hR
  clear hR
  have HQ := Lib.hid hq
  have HC := Lib.hid hc
  have HS := Lib.hid hs
  clear hc hs hq
  have HB : Hid (Below w.heap.size w (w.alloc (.cells #[.bool l, .slice a n c, .slice a' n' c'] 25))) := Lib.hid ((Below.refl _ _).alloc (Nat.le_refl _) _)
  have HW : Hid (IntKind.u64.wrap (q : Int) = (q : Int)) := Lib.hid (by have := HQ.out; show (q : Int) % 18446744073709551616 = q; omega)
  go_enter Tryd.func29, Tryd.ntmps29
  go_wp2_with (first
    | (go_at_call 41; (with_reducible refine (HC.out _ HB.out).mono ?_); rintro e y1 ⟨rfl, hb⟩; have H1 := Lib.hid (bl HB.out hb); have c0 := keep1 hb (o := 0) (b := w.heap.size) (x := .bool l) (by simp); have c1 := keep1 hb (o := 1) (b := w.heap.size) (x := .slice a n c) (by simp); have c2 := keep1 hb (o := 2) (b := w.heap.size) (x := .slice a' n' c') (by simp); clear hb HC)
    | (go_at_call 42; (with_reducible refine (HS.out _ H1.out).mono ?_); rintro e y2 ⟨rfl, hb⟩; have H2 := Lib.hid (bl H1.out hb); have HG := Lib.hid (digits_walk 8 q (by decide) (by have := HQ.out; omega) y2); clear hb HS c0 c1 c2)
    | (go_at_call 25; rw [HW.out]; (with_reducible refine HG.out.mono ?_); rintro e y3 ⟨V, rfl, hO, hb⟩; have H3 := Lib.hid (bl H2.out hb); obtain ⟨a3, c3, rfl, hB3⟩ := hO.isB; clear hb hO hB3))
  · go_ret
    refine ⟨?_, H2.out⟩
    rw [show R = q by rw [HR.out, if_pos ‹s = true›]]
    rfl
  · go_ret
    refine ⟨?_, H2.out⟩
    have hs0 : ¬ s = true := by rw [‹s = false›]; decide
    have hq0 : q < 56 := by omega
    rw [show R = 1 + q by rw [HR.out, if_neg hs0, if_pos hq0]]
    rfl
  · go_ret
    refine ⟨?_, H3.out⟩
    have hs0 : ¬ s = true := by rw [‹s = false›]; decide
    have hq0 : ¬ q < 56 := by omega
    have e : R = 1 + (big q).length + q := by rw [HR.out, if_neg hs0, if_neg hq0]
    have e2 := big_le q
    have e3 : (digs 8 q).length = (big q).length := rfl
    have hq1 := HQ.out
    rw [e3, e]
    have e4 : wrap64 (wrap64 (1 + ((big q).length : Int)) + (q : Int)) = ((1 + (big q).length + q : Nat) : Int) := by unfold wrap64; omega
    show Ending.returned (.int .i64 (wrap64 (wrap64 (1 + ((big q).length : Int)) + (q : Int)))) = _
    rw [e4]
theorem Fo.drop_right : ∀ (k : Fo) (j : Nat), k.right = true → (k.drop j).right = true
  | k, 0, h => by rw [Fo.drop_zero]; exact h
  | .nil, j + 1, _ => rfl
  | .cons l b k r, j + 1, h => by
    have h2 : r.right = true := by
      have h3 : (_ && r.right) = true := h
      exact (Bool.and_eq_true_iff.1 h3).2
    exact Fo.drop_right r j h2
theorem Fo.kid_right {k : Fo} {j : Nat} {l b k1 r} (h : k.right = true) (hd : k.drop j = .cons l b k1 r) : whole l b.length k1 = true := by
  have := Fo.drop_right k j h
  rw [hd, whole_right] at this
  exact (Bool.and_eq_true_iff.1 this).1
theorem whole_kids {l : Bool} {n : Nat} {k : Fo} (h : whole l n k = true) : k.right = true := (Bool.and_eq_true_iff.1 h).2
theorem whole_side {l : Bool} {bs : List Bt} {k : Fo} (h : whole l bs.length k = true) (hs : single l bs = true) : k = .nil := by
  obtain ⟨rfl, _⟩ := single_iff.1 hs
  have h1 := (Bool.and_eq_true_iff.1 h).1
  have h2 : (k.len : Int) = 0 := by simpa using h1
  exact len_zero (by have : k.len = 0 := by omega
                     rw [this]; rfl)
def B30 : Nat := 1073741824
theorem Fo.form_cons (l : Bool) (b : List Bt) (k r : Fo) : (Fo.cons l b k r).form = wrap l b k.form ++ r.form := rfl
theorem Fo.drop_form : ∀ (k : Fo) (j : Nat), (k.drop j).form.length ≤ k.form.length
  | k, 0 => by rw [Fo.drop_zero]; exact Nat.le_refl _
  | .nil, j + 1 => Nat.le_refl _
  | .cons l b k r, j + 1 => by
    have := Fo.drop_form r j
    rw [Fo.form_cons, List.length_append]
    show (r.drop j).form.length ≤ _
    omega
set_option maxHeartbeats 2000000 in
set_option maxRecDepth 100000 in
theorem content_step (w : World) (l : Bool) (n c n' c' : Nat) (a a' : Option Addr) (bs : List Bt) (k : Fo) (hb : IsB w a n c bs) (hk : IsK w a' n' c' k) (hs : bs.length + k.form.length < B30) (hr : k.right = true)
    (ih : ∀ (w : World) (l : Bool) (n c n' c' : Nat) (a a' : Option Addr) (bs : List Bt) (k1 : Fo), k1.size < k.size → whole l bs.length k1 = true → IsB w a n c bs → IsK w a' n' c' k1 → (wrap l bs k1.form).length < B30 → Calls Tryd.prog 29 #[.agg #[.bool l, .slice a n c, .slice a' n' c']] w fun e w' => e = .returned (.int .i64 (wrap l bs k1.form).length) ∧ Below w.heap.size w w') :
    Calls Tryd.prog 41 #[.agg #[.bool l, .slice a n c, .slice a' n' c']] w fun e w' => e = .returned (.int .i64 (bs.length + k.form.length : Nat)) ∧ Below w.heap.size w w' := by
  have HK := Lib.hid hk
  have HI := Lib.hid ih
  have HS := Lib.hid hs
  have HBn := Lib.hid hb.1
  have HR := Lib.hid hr
  clear hk ih hs hr
  have HN : Hid (n' ≤ maxLen) := Lib.hid (by have := HK.out; exact Nat.le_trans this.2.1 this.2.2.1)
  have HB : Hid (Below w.heap.size w (w.alloc (.cells #[.bool l, .slice a n c, .slice a' n' c'] 25))) := Lib.hid ((Below.refl _ _).alloc (Nat.le_refl _) _)
  clear hb
  go_enter Tryd.func41, Tryd.ntmps41
  go_wp2_with (fail)
  generalize w.alloc (.cells #[.bool l, .slice a n c, .slice a' n' c'] 25) = y0 at *
  go_loopw [3, 12] (fun t i y => ∃ j T : Nat, j ≤ n' ∧ i = .int .i64 j ∧ t = .int .i64 T ∧ Hid (T + (k.drop j).form.length = bs.length + k.form.length ∧ Below w.heap.size w y)) (fun _ i _ => n' - (intOf i).toNat)
  case atStart => exact ⟨0, n, Nat.zero_le _, rfl, rfl, Lib.hid ⟨by rw [Fo.drop_zero, HBn.out], HB.out⟩⟩
  case round =>
    obtain ⟨j, T, hj, rfl, rfl, hp⟩ := hrel
    clear HB
    by_cases hlt : (j : Int) < (n' : Int)
    · obtain ⟨b, o, l1, bs1, k1, a1, n1, c1, a2, n2, c2, rfl, hd, hb1, hk1, g0, g1, g2⟩ := (HK.out.keep (keep_below hp.out.2)).at (show j < n' by omega)
      have HS1 := Lib.hid (bl hp.out.2 ((Below.refl wr.heap.size wr).alloc (Nat.le_refl _) (.cells #[.bool l1, .slice a1 n1 c1, .slice a2 n2 c2] 25)))
      have hkeep := keep_below ((Below.refl wr.heap.size wr).alloc (Nat.le_refl _) (.cells #[.bool l1, .slice a1 n1 c1, .slice a2 n2 c2] 25))
      have hT : T + (wrap l1 bs1 k1.form).length + (k.drop (j + 1)).form.length = bs.length + k.form.length := by
        have := hp.out.1; rw [hd, Fo.form_cons, List.length_append] at this; omega
      generalize hz : (wrap l1 bs1 k1.form).length = Z at *
      have HC := Lib.hid (HI.out _ l1 n1 c1 n2 c2 a1 a2 bs1 k1 (Fo.drop_kid hd) (Fo.kid_right HR.out hd) (hb1.keep hkeep) (hk1.keep hkeep) (by rw [hz]; have := HS.out; omega))
      rw [hz] at HC
      have HT := Lib.hid hT
      have HJ := Lib.hid (show j < n' ∧ wrap64 ((j : Int) + 1) = ((j + 1 : Nat) : Int) ∧ wrap64 ((T : Int) + (Z : Int)) = ((T + Z : Nat) : Int) by
        refine ⟨by omega, ?_, ?_⟩
        · have := HN.out; simp only [maxLen] at this; unfold wrap64; omega
        · have := HS.out; unfold B30 at this; unfold wrap64; omega)
      clear hd hb1 hk1 hp hj hT hz hkeep
      go_wp2_with (go_at_call 29; (with_reducible refine HC.out.mono ?_); rintro e y1 ⟨rfl, hb⟩; have H1 := Lib.hid (bl HS1.out hb); clear hb HC g0 g1 g2 HS1 hlt)
      go_roundw
      case rel => exact ⟨j + 1, T + Z, HJ.out.1, by rw [HJ.out.2.1], by rw [HJ.out.2.2], Lib.hid ⟨by have := HT.out; omega, H1.out⟩⟩
      case measure => rw [HJ.out.2.1]; have := HJ.out.1; simp [intOf]; omega
    · go_wp2_with (fail)
      go_ret
      refine ⟨?_, hp.out.2⟩
      have e := hp.out.1
      rw [Fo.drop_end (by have := HK.out.1; omega)] at e
      have e2 : T = bs.length + k.form.length := e
      exact congrArg (fun z : Nat => Ending.returned (.int .i64 (z : Int))) e2
theorem size_walk (w : World) (l : Bool) (n c n' c' : Nat) (a a' : Option Addr) (bs : List Bt) (k : Fo) (hb : IsB w a n c bs) (hk : IsK w a' n' c' k) (hs : (wrap l bs k.form).length < B30) (hr : whole l bs.length k = true) :
    Calls Tryd.prog 29 #[.agg #[.bool l, .slice a n c, .slice a' n' c']] w fun e w' => e = .returned (.int .i64 (wrap l bs k.form).length) ∧ Below w.heap.size w w' := by
  generalize hz : k.size = z at *
  induction z using Nat.strongRecOn generalizing w l n c n' c' a a' bs k with
  | _ z ih =>
    subst hz
    have hside : single l bs = true → k.form.length = 0 := fun h => by rw [whole_side hr h]; rfl
    have hle : bs.length + k.form.length < B30 := by
      rw [form_len] at hs
      cases h1 : single l bs with
      | false => rw [h1] at hs; simp only [Bool.false_eq_true, if_false] at hs; omega
      | true =>
        rw [h1] at hs
        simp only [if_true] at hs
        have h2 := hside h1
        omega
    have hl := form_len l bs k.form
    have hl2 : (wrap l bs k.form).length = if single l bs then bs.length + k.form.length else (if bs.length + k.form.length < 56 then 1 else 1 + (big (bs.length + k.form.length)).length) + (bs.length + k.form.length) := by
      rw [hl]
      cases h1 : single l bs with
      | false => rfl
      | true => simp only [if_true]; have := hside h1; omega
    refine size_step w l n c n' c' a a' (single l bs) (bs.length + k.form.length) _ hle hl2 ?_ ?_
    · intro w0 h0
      exact content_step w0 l n c n' c' a a' bs k (hb.keep (keep_below h0)) (hk.keep (keep_below h0)) hle (whole_kids hr) fun w l n c n' c' a a' bs k1 h1 h2 h3 h4 h5 => ih k1.size h1 w l n c n' c' a a' bs k1 h3 h4 h5 h2 rfl
    · intro w0 h0
      exact single_walk w0 l n c n' c' a a' bs (hb.keep (keep_below h0))
end Rl
end Go.Proofs.YthlmjcochpodgaaDoor
