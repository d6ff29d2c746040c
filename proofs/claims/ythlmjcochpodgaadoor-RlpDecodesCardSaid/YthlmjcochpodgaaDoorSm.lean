/-
  Forms and what is read: plain facts. Own work.
-/
import Derived.Test.YthlmjcochpodgaaDoorSl
namespace Go.Proofs.YthlmjcochpodgaaDoor
set_option linter.unusedVariables false
namespace Rl
theorem one_read {b : List Bt} {i e d f : Nat} {l : Bool} {x : List Bt} {k : Fo} (hr1 : (if l then x.isEmpty else k.len == 0) = true) (hr2 : k.right = true) (hd : d < 16) (hd3 : k.deep (16 - (d + 1)) = false)
    (hb1 : slc b i (wrap l x k.form).length = wrap l x k.form) (he : i + (wrap l x k.form).length ≤ e) (hlen : (wrap l x k.form).length < 2 ^ 64) (hf : k.size ≤ f) : one b (f + 1) i e d = .ok l x k (i + (wrap l x k.form).length) := by
  obtain ⟨c, hwc, hc⟩ : ∃ c, wrap l x k.form = wrapB l c ∧ c = (if l then k.form else x) := by
    refine ⟨_, ?_, rfl⟩
    cases l with
    | true => rw [empty_nil hr1, wrap_true]; rfl
    | false => rw [len_zero hr1]; exact wrap_false x
  rw [hwc] at hb1 he hlen ⊢
  have hcl : c.length ≤ (wrapB l c).length := by
    unfold wrapB; split
    · exact Nat.le_refl _
    · simp
  obtain ⟨s, h1, h2, h3⟩ := hd_wrap hb1 (e := e) (by omega) (by omega)
  unfold one
  rw [if_neg (by omega), h1]
  cases l with
  | true =>
    have hck : c = k.form := hc
    have hx := empty_nil hr1
    subst hx
    have hcl0 : k.form.length ≤ (wrapB true c).length := by rw [← hck]; exact hcl
    rw [hck] at h2 h3 hcl
    have hk := form_read b k (i + s) (i + s + k.form.length) (d + 1) f hr2 hd3 h3 rfl (by omega) (by omega)
    simp only [hck, hk]
    congr 1; omega
  | false =>
    have hcx : c = x := hc
    have hk := len_zero hr1
    subst hk
    simp only
    rw [h3, hcx]
    congr 1
    rw [← hcx]; omega
theorem enc_zero {l : Bool} {bs : List Bt} {k : Fo} : encW l bs k = 0 ↔ k.deep 15 = false ∧ (if l then bs.isEmpty else k.len == 0) = true ∧ k.right = true ∧ (wrap l bs k.form).length ≤ 4096 := by
  have e1 : dp k 16 = k.deep 15 := rfl
  have e2 : whole l bs.length k = ((if l then bs.isEmpty else k.len == 0) && k.right) := by
    have h := whole_right l bs k .nil
    have h2 : (Fo.cons l bs k .nil).right = ((if l then bs.isEmpty else k.len == 0) && k.right && Fo.nil.right) := rfl
    rw [h2] at h
    have h3 : Fo.nil.right = true := rfl
    rw [h3, Bool.and_true, Bool.and_true] at h
    exact h.symm
  unfold encW
  rw [e1, e2]
  cases h1 : k.deep 15 <;> cases h2 : (if l then bs.isEmpty else k.len == 0) <;> cases h3 : k.right <;> simp
theorem wrapB_gt {l : Bool} {c : List Bt} (h : l = true) : c.length + 1 ≤ (wrapB l c).length := by
  subst h
  unfold wrapB
  rw [if_neg (by rw [single_iff]; rintro ⟨h, _⟩; cases h), List.length_append, head_len]
  split <;> omega
theorem size_form : ∀ k : Fo, k.right = true → k.size ≤ 4 * k.form.length + 1
  | .nil, _ => by decide
  | .cons l b k r, h => by
    have hr' : ((if l then b.isEmpty else k.len == 0) && k.right && r.right) = true := h
    simp only [Bool.and_eq_true] at hr'
    obtain ⟨⟨hr1, hr2⟩, hr3⟩ := hr'
    have h1 := size_form k hr2
    have h2 := size_form r hr3
    show k.size + r.size + 2 ≤ 4 * (wrap l b k.form ++ r.form).length + 1
    rw [List.length_append]
    cases l with
    | true =>
      rw [empty_nil hr1, wrap_true]
      have := wrapB_gt (l := true) (c := k.form) rfl
      omega
    | false =>
      rw [len_zero hr1] at h1 ⊢
      have h3 : (Fo.nil).size = 1 := rfl
      rw [h3]
      have h4 := wrapB_pos false b
      have h5 : wrap false b Fo.nil.form = wrapB false b := wrap_false b
      rw [h5]
      omega
theorem slc_pre (x y : List Bt) : slc (x ++ y) 0 x.length = x := by simp [slc]
/-- Bytes behind a form. -/
theorem dec_app {l : Bool} {x : List Bt} {k : Fo} (h : encW l x k = 0) (ys : List Bt) (hl : (wrap l x k.form ++ ys).length ≤ 4096) :
    one (wrap l x k.form ++ ys) (4 * (wrap l x k.form ++ ys).length + 4) 0 (wrap l x k.form ++ ys).length 0 = .ok l x k (wrap l x k.form).length := by
  obtain ⟨h1, h2, h3, h4⟩ := enc_zero.1 h
  have hk := size_form k h3
  have hw : k.form.length ≤ (wrap l x k.form).length := by
    cases l with
    | true => rw [empty_nil h2, wrap_true]; have := wrapB_gt (l := true) (c := k.form) rfl; omega
    | false => rw [len_zero h2]; exact Nat.zero_le _
  have := one_read (b := wrap l x k.form ++ ys) (i := 0) (e := (wrap l x k.form ++ ys).length) (d := 0) (f := 4 * (wrap l x k.form ++ ys).length + 3) h2 h3 (by omega) h1 (slc_pre _ _) (by simp) (by omega) (by simp; omega)
  rw [Nat.zero_add] at this
  exact this
theorem wrap_pos {l : Bool} {x : List Bt} {k : Fo} (h : encW l x k = 0) : 0 < (wrap l x k.form).length := by
  obtain ⟨h1, h2, h3, h4⟩ := enc_zero.1 h
  cases l with
  | true => rw [empty_nil h2, wrap_true]; exact wrapB_pos _ _
  | false => rw [len_zero h2]; rw [show wrap false x Fo.nil.form = wrapB false x from wrap_false x]; exact wrapB_pos _ _
theorem enc_dec {l : Bool} {x : List Bt} {k : Fo} (h : encW l x k = 0) : dec (wrap l x k.form) = .ok l x k (wrap l x k.form).length := by
  have h4 := (enc_zero.1 h).2.2.2
  have hp := wrap_pos h
  have := dec_app h [] (by simpa using h4)
  rw [List.append_nil] at this
  unfold dec
  rw [if_neg (by omega), if_neg (by omega), this]
  show (if _ then _ else _) = _
  rw [if_neg (by omega)]
theorem dec_more {l : Bool} {x : List Bt} {k : Fo} (h : encW l x k = 0) {ys : List Bt} (hy : ys ≠ []) : ∃ p w, dec (wrap l x k.form ++ ys) = .bad p w := by
  unfold dec
  by_cases hl : 4096 < (wrap l x k.form ++ ys).length
  · rw [if_pos hl]; exact ⟨_, _, rfl⟩
  · have hp := wrap_pos h
    have hy1 : 0 < ys.length := List.length_pos_iff.2 hy
    have hll : (wrap l x k.form ++ ys).length = (wrap l x k.form).length + ys.length := List.length_append
    rw [if_neg hl, if_neg (by omega), dec_app h ys (by omega)]
    exact ⟨(wrap l x k.form).length, 11, by show (if _ then _ else _) = _; rw [if_pos (by omega)]⟩
theorem dec_ok {b : List Bt} {l : Bool} {x : List Bt} {k : Fo} {j : Nat} (h : dec b = .ok l x k j) : j = b.length ∧ wrap l x k.form = b ∧ encW l x k = 0 := by
  unfold dec at h
  split at h
  · cases h
  · split at h
    · cases h
    · rename_i h1 h2
      cases ho : one b (4 * b.length + 4) 0 b.length 0 with
      | bad p w => rw [ho] at h; cases h
      | ok l' x' k' j' =>
        rw [ho] at h
        obtain ⟨g1, g2, g3, g4, g5, g6, g7⟩ := (read_form b _).1 0 b.length 0 l' x' k' j' (by omega) (Nat.le_refl _) ho
        have h3 : (if j' < b.length then R1.bad j' 11 else .ok l' x' k' j') = .ok l x k j := h
        split at h3
        · cases h3
        · injection h3 with e1 e2 e3 e4
          subst e1 e2 e3 e4
          have hj : j' = b.length := by omega
          subst hj
          rw [Nat.sub_zero, slc_full b _ rfl] at g3
          exact ⟨rfl, g3, enc_zero.2 ⟨g7, g4, g5, by rw [g3]; omega⟩⟩
theorem enc_inj {l l' : Bool} {x x' : List Bt} {k k' : Fo} (h : encW l x k = 0) (h' : encW l' x' k' = 0) (e : wrap l x k.form = wrap l' x' k'.form) : l = l' ∧ x = x' ∧ k = k' := by
  have h1 := enc_dec h
  rw [e, enc_dec h'] at h1
  injection h1 with e1 e2 e3 _
  exact ⟨e1.symm, e2.symm, e3.symm⟩
/-- A form that is cut off is none. -/
theorem dec_cut {l : Bool} {x : List Bt} {k : Fo} (h : encW l x k = 0) {m : Nat} (hm : m < (wrap l x k.form).length) : ∃ p w, dec ((wrap l x k.form).take m) = .bad p w := by
  cases hd : dec ((wrap l x k.form).take m) with
  | bad p w => exact ⟨p, w, rfl⟩
  | ok l' x' k' j =>
    obtain ⟨h1, h2, h3⟩ := dec_ok hd
    obtain ⟨p, w, h4⟩ := dec_more h3 (ys := (wrap l x k.form).drop m) (by
      intro e
      have := congrArg List.length e
      simp at this; omega)
    rw [h2, List.take_append_drop, enc_dec h] at h4
    cases h4
end Rl
end Go.Proofs.YthlmjcochpodgaaDoor
