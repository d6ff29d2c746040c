/-
  rlp: the head of an item: short, long. What is not great has no great form. Own work.
-/
import Derived.Test.YthlmjcochpodgaaDoorRj
namespace Go.Proofs.YthlmjcochpodgaaDoor
open Go.ChangeShapes Go.WideShapes Go.Deep Go.RowKit
set_option linter.unusedVariables false
set_option linter.unusedSimpArgs false
namespace Rl
theorem wrap_le (l : Bool) (b c : List Bt) : (wrap l b c).length ≤ 9 + b.length + c.length := by
  rw [form_len]
  have := big_le (b.length + c.length)
  split
  · omega
  · split <;> omega
theorem rest_form : ∀ (k : Fo) (v : Int), 0 ≤ k.rest v → (k.form.length : Int) + 10 * k.rest v ≤ 10 * v
  | .nil, v, h => by show ((0 : Nat) : Int) + 10 * v ≤ 10 * v; omega
  | .cons l b k r, v, h => by
    by_cases hv : v < 0
    · rw [rest_neg _ _ hv] at h; omega
    · have e : (Fo.cons l b k r).rest v = r.rest (k.rest (v - (1 + b.length))) := by
        show (if v < 0 then v else _) = _; rw [if_neg hv]
      rw [e] at h ⊢
      have h1 := rest_form r _ h
      have hk : 0 ≤ k.rest (v - (1 + b.length)) := by
        apply Int.not_lt.1
        intro hc
        rw [rest_neg _ _ hc] at h; omega
      have h2 := rest_form k _ hk
      have h3 := wrap_le l b k.form
      rw [Fo.form_cons, List.length_append]
      omega
theorem great_form {l : Bool} {bs : List Bt} {k : Fo} (h : great bs.length k = false) : (wrap l bs k.form).length < B30 := by
  unfold great at h
  have h0 : 0 ≤ k.rest (262144 - (1 + (bs.length : Int))) := by simpa using h
  have h1 := rest_form k _ h0
  have h2 := wrap_le l bs k.form
  unfold B30
  omega
theorem cells83 : Tryd.prog.cellsOf 83 = 3 := by kernel_rfl
set_option maxHeartbeats 1000000 in
set_option maxRecDepth 100000 in
theorem short_end (w : World) (n c m : Nat) (a : Option Addr) (hn : 1 ≤ n) (hm : m ≤ 63) (h : n - 1 < m) :
    Calls Tryd.prog 51 #[.slice a n c, .int .i64 m] w fun e w' => e = .returned (.tuple #[.agg #[.bool false, .int .i64 0, .int .i64 0], eN 11]) ∧ Below w.heap.size w w' := by
  have h1 : (n : Int) - 1 < (m : Int) := by omega
  have h2 : (1 : Int) ≤ n := by omega
  have hw : wrap64 ((n : Int) - 1) = (n : Int) - 1 := by unfold wrap64; omega
  have HB : Hid (Below w.heap.size w (w.alloc (.cells #[.bool false, .int .i64 0, .int .i64 0] 83))) := Lib.hid ((Below.refl _ _).alloc (Nat.le_refl _) _)
  clear hn hm h h2
  go_enter Tryd.func51, Tryd.ntmps51
  go_wp2_with (fail)
  exact bodyPost_ret (v := .tuple #[.agg #[.bool false, .int .i64 0, .int .i64 0], eN 11]) (by simp [results, Tryd.results51, go_sem, eN]) rfl ⟨rfl, HB.out⟩
set_option maxHeartbeats 1000000 in
set_option maxRecDepth 100000 in
theorem short_ok (w : World) (n c m : Nat) (a : Option Addr) (hn : 1 ≤ n) (hn2 : n ≤ 4096) (h : m ≤ n - 1) :
    Calls Tryd.prog 51 #[.slice a n c, .int .i64 m] w fun e w' => e = .returned (.tuple #[.agg #[.bool false, .int .i64 1, .int .i64 m], .nilIface]) ∧ Below w.heap.size w w' := by
  have hw : wrap64 ((n : Int) - 1) = (n : Int) - 1 := by unfold wrap64; omega
  have h1 : decide ((n : Int) - 1 < (m : Int)) = false := by simp; omega
  clear hn hn2 h
  go_enter Tryd.func51, Tryd.ntmps51
  go_wp2_with (fail)
  exact bodyPost_ret (v := .tuple #[.agg #[.bool false, .int .i64 1, .int .i64 m], .nilIface]) (by simp [results, Tryd.results51, go_sem]) rfl ⟨rfl, (Below.refl _ _).alloc (Nat.le_refl _) _⟩
set_option maxHeartbeats 1000000 in
set_option maxRecDepth 100000 in
theorem long_end (w : World) (n c m : Nat) (a : Option Addr) (hn : 1 ≤ n) (hm : m ≤ 8) (h : n - 1 < m) :
    Calls Tryd.prog 52 #[.slice a n c, .int .i64 m] w fun e w' => e = .returned (.tuple #[.agg #[.bool false, .int .i64 0, .int .i64 0], eN 11]) ∧ Below w.heap.size w w' := by
  have hw : wrap64 ((n : Int) - 1) = (n : Int) - 1 := by unfold wrap64; omega
  have h1 : (n : Int) - 1 < (m : Int) := by omega
  clear hn hm h
  go_enter Tryd.func52, Tryd.ntmps52
  go_wp2_with (fail)
  exact bodyPost_ret (v := .tuple #[.agg #[.bool false, .int .i64 0, .int .i64 0], eN 11]) (by simp [results, Tryd.results52, go_sem, eN]) rfl ⟨rfl, (Below.refl _ _).alloc (Nat.le_refl _) _⟩
/-- The bytes behind the first one. -/
theorem IsB.sub {w : World} {b o n c : Nat} {bs : List Bt} (h : IsB w (some ⟨b, o, none⟩) n c bs) {i m : Nat} (hm : i + m ≤ n) : IsB w (some ⟨b, o + i, none⟩) m (c - i) (slc bs i m) := by
  obtain ⟨h1, h2, h3, h4, h5⟩ := h
  refine ⟨(slc_len (by omega)).symm, by omega, by omega, fun e => (by cases e), ?_⟩
  rcases Nat.eq_zero_or_pos m with h0 | h0
  · exact .inl h0
  · right
    rcases h5 with h5 | ⟨b', o', e, h6⟩
    · omega
    · injection e with e
      injection e with e1 e2
      subst e1 e2
      refine ⟨b, o + i, rfl, fun j x hx => ?_⟩
      have hj : j < m := by
        have := (List.getElem?_eq_some_iff.1 hx).1
        rw [slc_len (by omega)] at this; exact this
      have := h6 (i + j) x (by
        rw [← hx]; unfold slc
        rw [List.getElem?_take, if_pos hj, List.getElem?_drop])
      rw [← Nat.add_assoc] at this
      exact this
set_option maxHeartbeats 2000000 in
set_option maxRecDepth 100000 in
theorem long_walk (w : World) (n c m b o : Nat) (bs : List Bt) (hB : IsB w (some ⟨b, o, none⟩) n c bs) (hn2 : n ≤ 4096) (hm0 : 1 ≤ m) (hm : m ≤ 8) (h : m ≤ n - 1) :
    Calls Tryd.prog 52 #[.slice (some ⟨b, o, none⟩) n c, .int .i64 m] w fun e w' =>
      e = .returned (if n - 1 - m < num 0 (slc bs 1 m) then .tuple #[.agg #[.bool false, .int .i64 0, .int .i64 0], eN 11] else if (bs.getD 1 0#8).toNat = 0 ∨ num 0 (slc bs 1 m) < 56 then .tuple #[.agg #[.bool false, .int .i64 0, .int .i64 0], eN 12] else .tuple #[.agg #[.bool false, .int .i64 (1 + m : Nat), .int .i64 (num 0 (slc bs 1 m))], .nilIface]) ∧ Below w.heap.size w w' := by
  have HB0 : Hid (Below w.heap.size w (w.alloc (.cells #[.bool false, .int .i64 0, .int .i64 0] 83))) := Lib.hid ((Below.refl _ _).alloc (Nat.le_refl _) _)
  have HN := Lib.hid (number_walk (w.alloc (.cells #[.bool false, .int .i64 0, .int .i64 0] 83)) (some ⟨b, o + 1, none⟩) m (c - 1) (slc bs 1 m) ((hB.sub (i := 1) (m := m) (by omega)).keep (keep_below HB0.out)) hm)
  obtain ⟨b1, o1, e1, g1⟩ := hB.cellAt (j := 1) (by omega)
  injection e1 with e1
  injection e1 with e1 e2
  subst e1 e2
  have g1 := keep_below HB0.out _ _ g1
  generalize hq : num 0 (slc bs 1 m) = q at *
  generalize hx : (bs.getD 1 0#8).toNat = x at *
  have hw : wrap64 ((n : Int) - 1) = (n : Int) - 1 := by unfold wrap64; omega
  have h1 : decide ((n : Int) - 1 < (m : Int)) = false := by simp; omega
  have hw2 : wrap64 (1 + (m : Int)) = 1 + (m : Int) := by unfold wrap64; omega
  have hnc := hB.2.1
  have hcm := hB.2.2.1
  have HBD := Lib.hid (show 1 ≤ m ∧ m ≤ 8 ∧ m ≤ n - 1 ∧ n ≤ 4096 from ⟨hm0, hm, h, hn2⟩)
  have hw3 : wrap64 ((n : Int) - 1 - (m : Int)) = (n : Int) - 1 - m := by unfold wrap64; omega
  have hw4 : IntKind.u64.wrap ((n : Int) - 1 - (m : Int)) = (n : Int) - 1 - m := by show ((n : Int) - 1 - (m : Int)) % 18446744073709551616 = _; omega
  generalize hR : (if n - 1 - m < q then Value.tuple #[.agg #[.bool false, .int .i64 0, .int .i64 0], eN 11] else if x = 0 ∨ q < 56 then .tuple #[.agg #[.bool false, .int .i64 0, .int .i64 0], eN 12] else .tuple #[.agg #[.bool false, .int .i64 (1 + m : Nat), .int .i64 q], .nilIface]) = R at *
  have HR := Lib.hid hR
  have hc1 : ¬ c = 1 := by omega
  have hm1 : (1 : Int) ≤ 1 + (m : Int) := by omega
  have hm2 : 1 + (m : Int) ≤ (n : Int) := by omega
  have hm3 : (n : Int) ≤ (c : Int) := by omega
  clear hR hm0 hm h hn2 hw3 hw4
  clear hB hq hx
  go_enter Tryd.func52, Tryd.ntmps52
  go_upto_region 4 with (go_at_call 40; (with_reducible refine HN.out.mono ?_); rintro e y1 ⟨rfl, rfl⟩)
  have hw3 : wrap64 ((n : Int) - 1 - (m : Int)) = (n : Int) - 1 - m := by have := HBD.out; unfold wrap64; omega
  have hw4 : IntKind.u64.wrap ((n : Int) - 1 - (m : Int)) = (n : Int) - 1 - m := by have := HBD.out; show ((n : Int) - 1 - (m : Int)) % 18446744073709551616 = _; omega
  clear hm1 hm2 hm3 hnc hcm h1 hw2 HN hc1
  have h1n : (1 : Int) < (n : Int) := by have := HBD.out; omega
  by_cases ha : (n : Int) - 1 - m < (q : Int)
  · have e : Hid (R = Value.tuple #[.agg #[.bool false, .int .i64 0, .int .i64 0], eN 11]) := Lib.hid (by rw [← HR.out, if_pos (by have := HBD.out; omega)])
    go_wp2_with (fail)
    exact bodyPost_ret (v := .tuple #[.agg #[.bool false, .int .i64 0, .int .i64 0], eN 11]) (by simp [results, Tryd.results52, go_sem, eN]) rfl ⟨by rw [e.out], HB0.out⟩
  · have ha1 : decide ((n : Int) - 1 - m < (q : Int)) = false := by simpa using ha
    have ha2 : ¬ n - 1 - m < q := by have := HBD.out; omega
    have HA2 := Lib.hid ha2
    have hw5 : wrap64 (q : Int) = (q : Int) := by have := HBD.out; unfold wrap64; omega
    clear ha ha2
    by_cases hx0 : x = 0
    · subst hx0
      have e : Hid (R = Value.tuple #[.agg #[.bool false, .int .i64 0, .int .i64 0], eN 12]) := Lib.hid (by rw [← HR.out, if_neg HA2.out, if_pos (.inl rfl)])
      go_wp2_with (fail)
      exact bodyPost_ret (v := .tuple #[.agg #[.bool false, .int .i64 0, .int .i64 0], eN 12]) (by simp [results, Tryd.results52, go_sem, eN]) rfl ⟨by rw [e.out], HB0.out⟩
    · have hx1 : ((x : Int) == 0) = false := by
        have : ¬ (x : Int) = 0 := by omega
        simpa using this
      have HX0 := Lib.hid hx0
      clear hx0
      by_cases h56 : (q : Int) < 56
      · have e : Hid (R = Value.tuple #[.agg #[.bool false, .int .i64 0, .int .i64 0], eN 12]) := Lib.hid (by rw [← HR.out, if_neg HA2.out, if_pos (.inr (by omega))])
        go_wp2_with (fail)
        exact bodyPost_ret (v := .tuple #[.agg #[.bool false, .int .i64 0, .int .i64 0], eN 12]) (by simp [results, Tryd.results52, go_sem, eN]) rfl ⟨by rw [e.out], HB0.out⟩
      · have h561 : decide ((q : Int) < 56) = false := by simpa using h56
        have e : Hid (R = Value.tuple #[.agg #[.bool false, .int .i64 (1 + m : Nat), .int .i64 q], .nilIface]) := Lib.hid (by rw [← HR.out, if_neg HA2.out, if_neg (by have := HX0.out; omega)])
        have hwm : wrap64 (1 + (m : Int)) = ((1 + m : Nat) : Int) := by have := HBD.out; unfold wrap64; omega
        clear h56
        go_wp2_with (fail)
        exact bodyPost_ret (v := .tuple #[.agg #[.bool false, .int .i64 (1 + m : Nat), .int .i64 q], .nilIface]) (by simp [results, Tryd.results52, go_sem]) rfl ⟨by rw [e.out], (Below.refl _ _).alloc (Nat.le_refl _) _⟩
end Rl
end Go.Proofs.YthlmjcochpodgaaDoor
