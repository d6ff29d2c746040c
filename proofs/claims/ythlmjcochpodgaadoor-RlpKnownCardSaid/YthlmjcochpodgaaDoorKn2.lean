/-
  RlpKnown. Own work.
-/
import Derived.Test.YthlmjcochpodgaaDoorKn1
namespace Go.Proofs.YthlmjcochpodgaaDoor
open Go.ChangeShapes Go.WideShapes Go.Deep Go.RowKit
set_option linter.unusedVariables false
set_option linter.unusedSimpArgs false
namespace Rl
def z8 : List Bt := List.replicate 56 0#8
def KnI (w : World) (b o : Nat) : Prop := ∃ l a n c a' n' c' bs k, w.cell? ⟨b, o, none⟩ = some (.bool l) ∧ w.cell? ⟨b, o + 1, none⟩ = some (.slice a n c) ∧ w.cell? ⟨b, o + 2, none⟩ = some (.slice a' n' c') ∧
  w.cell? ⟨b, o + 3, none⟩ = some (.string (str (wrap l bs k.form))) ∧ IsB w a n c bs ∧ IsK w a' n' c' k ∧ encW l bs k = 0 ∧ (wrap l bs k.form).length < B30
theorem KnI.keep {w w' : World} {b o : Nat} (h : KnI w b o) (hk : Keep w w') : KnI w' b o := by
  obtain ⟨l, a, n, c, a', n', c', bs, k, h0, h1, h2, h3, h4, h5, h6, h7⟩ := h
  exact ⟨l, a, n, c, a', n', c', bs, k, hk _ _ h0, hk _ _ h1, hk _ _ h2, hk _ _ h3, h4.keep hk, h5.keep hk, h6, h7⟩
theorem isK_none (w : World) : IsK w none 0 0 .nil := ⟨rfl, Nat.le_refl _, by decide, fun _ => rfl, .inl rfl⟩
theorem isB_none (w : World) : IsB w none 0 0 [] := ⟨rfl, Nat.le_refl _, by decide, fun _ => rfl, .inl rfl⟩
theorem kids2 (w : World) (A B : Option Addr) (n m c d : Nat) (x y : List Bt) (h1 : IsB w A n c x) (h2 : IsB w B m d y) :
    IsK (w.alloc (.cells #[.bool false, .slice A n c, .slice none 0 0, .bool false, .slice B m d, .slice none 0 0] 25)) (some ⟨w.heap.size, 0, none⟩) 2 2 (.cons false x .nil (.cons false y .nil .nil)) := by
  have hk := keep_below (ba w (.cells #[.bool false, .slice A n c, .slice none 0 0, .bool false, .slice B m d, .slice none 0 0] 25))
  refine ⟨rfl, Nat.le_refl _, by decide, fun e => (by cases e), .inr ⟨_, 0, rfl, ?_⟩⟩
  exact ⟨by simp, ⟨A, n, c, by simp, h1.keep hk⟩, ⟨none, 0, 0, by simp, isK_none _⟩, by simp, ⟨B, m, d, by simp, h2.keep hk⟩, ⟨none, 0, 0, by simp, isK_none _⟩, trivial⟩
theorem mk56 (w : World) : (Instr.makeSlice 22 (.int .i64 56) (.int .i64 56)).run Tryd.prog w = .ok (.slice (some ⟨w.heap.size, 0, none⟩) 56 56) (w.alloc (.cells (List.replicate 56 (.int .u8 0)).toArray 5)) := by kernel_rfl
theorem long_gen (w : World) (n : Nat) (hn : n ≤ maxLen) : IsB (w.alloc (.cells (List.replicate n (.int .u8 0)).toArray 5)) (some ⟨w.heap.size, 0, none⟩) n n (List.replicate n 0#8) := by
  refine ⟨by simp, Nat.le_refl _, hn, fun e => (by cases e), .inr ⟨_, 0, rfl, fun i x hx => ?_⟩⟩
  rw [List.getElem?_replicate] at hx
  by_cases hi : i < n
  · rw [if_pos hi] at hx
    injection hx with hx
    subst hx
    simp [hi, bvb]
  · rw [if_neg hi] at hx; cases hx
theorem long_in (w : World) : IsB (w.alloc (.cells (List.replicate 56 (.int .u8 0)).toArray 5)) (some ⟨w.heap.size, 0, none⟩) 56 56 z8 := long_gen w 56 (by decide)
theorem want6 (u : World) : (binOp .add 9 (.string ⟨#[184, 56]⟩) (.string (str z8))).run Tryd.prog u = .ok (.string (str (wrap false z8 Fo.nil.form))) u := by kernel_rfl
theorem enc6 : encW false z8 .nil = 0 ∧ (wrap false z8 Fo.nil.form).length < B30 := by decide
def isBad : R1 → Bool
  | .bad _ _ => true
  | _ => false
theorem bad_of {bs : List Bt} (h : isBad (dec bs) = true) : ∃ p k, dec bs = .bad p k := by
  cases e : dec bs with
  | bad p k => exact ⟨p, k, rfl⟩
  | ok l x k j => rw [e] at h; cases h
theorem t100_111_103 (w : World) : Calls Tryd.prog 11 #[.string ⟨#[100, 111, 103]⟩] w fun e w' => ∃ a c, e = .returned (.agg #[.bool false, .slice a 3 c, .slice none 0 0]) ∧ IsB w' a 3 c [100#8, 111#8, 103#8] ∧ Below w.heap.size w w' := text_walk w [100#8, 111#8, 103#8] (by decide)
theorem t (w : World) : Calls Tryd.prog 11 #[.string ⟨#[]⟩] w fun e w' => ∃ a c, e = .returned (.agg #[.bool false, .slice a 0 c, .slice none 0 0]) ∧ IsB w' a 0 c [] ∧ Below w.heap.size w w' := text_walk w [] (by decide)
theorem t15 (w : World) : Calls Tryd.prog 11 #[.string ⟨#[15]⟩] w fun e w' => ∃ a c, e = .returned (.agg #[.bool false, .slice a 1 c, .slice none 0 0]) ∧ IsB w' a 1 c [15#8] ∧ Below w.heap.size w w' := text_walk w [15#8] (by decide)
theorem t128 (w : World) : Calls Tryd.prog 11 #[.string ⟨#[128]⟩] w fun e w' => ∃ a c, e = .returned (.agg #[.bool false, .slice a 1 c, .slice none 0 0]) ∧ IsB w' a 1 c [128#8] ∧ Below w.heap.size w w' := text_walk w [128#8] (by decide)
theorem t99_97_116 (w : World) : Calls Tryd.prog 11 #[.string ⟨#[99, 97, 116]⟩] w fun e w' => ∃ a c, e = .returned (.agg #[.bool false, .slice a 3 c, .slice none 0 0]) ∧ IsB w' a 3 c [99#8, 97#8, 116#8] ∧ Below w.heap.size w w' := text_walk w [99#8, 97#8, 116#8] (by decide)
theorem num0 (w : World) : Calls Tryd.prog 12 #[.int .u64 0] w fun e w' => ∃ a c, e = .returned (.agg #[.bool false, .slice a 0 c, .slice none 0 0]) ∧ IsB w' a 0 c [] ∧ Below w.heap.size w w' := by
  have h := Number_walk w 0 (by decide)
  rw [show big 0 = [] from by decide] at h
  exact h
theorem num1024 (w : World) : Calls Tryd.prog 12 #[.int .u64 1024] w fun e w' => ∃ a c, e = .returned (.agg #[.bool false, .slice a 2 c, .slice none 0 0]) ∧ IsB w' a 2 c [4#8, 0#8] ∧ Below w.heap.size w w' := by
  have h := Number_walk w 1024 (by decide)
  rw [show big 1024 = [4#8, 0#8] from by decide] at h
  exact h
def nineC (A1 A4 A7 A10 A27 A29 : Option Addr) (c1 c4 c7 c10 c27 c29 q qL : Nat) (W6 : ByteArray) : Array Value := #[.bool false, .slice A1 3 c1, .slice none 0 0, .string ⟨#[131, 100, 111, 103]⟩, .bool false, .slice A4 0 c4, .slice none 0 0, .string ⟨#[128]⟩, .bool false, .slice A7 1 c7, .slice none 0 0, .string ⟨#[15]⟩,
      .bool false, .slice A10 1 c10, .slice none 0 0, .string ⟨#[129, 128]⟩, .bool true, .slice none 0 0, .slice none 0 0, .string ⟨#[192]⟩, .bool true, .slice none 0 0, .slice (some ⟨q, 0, none⟩) 2 2, .string ⟨#[200, 131, 99, 97, 116, 131, 100, 111, 103]⟩,
      .bool false, .slice (some ⟨qL, 0, none⟩) 56 56, .slice none 0 0, .string W6, .bool false, .slice A27 0 c27, .slice none 0 0, .string ⟨#[128]⟩, .bool false, .slice A29 2 c29, .slice none 0 0, .string ⟨#[130, 4, 0]⟩]
/-- The nine rows. -/
theorem nine (w : World) (A1 A4 A7 A10 A27 A29 : Option Addr) (c1 c4 c7 c10 c27 c29 q qL : Nat) (h1 : IsB w A1 3 c1 [100#8, 111#8, 103#8]) (h4 : IsB w A4 0 c4 []) (h7 : IsB w A7 1 c7 [15#8]) (h10 : IsB w A10 1 c10 [128#8])
    (h27 : IsB w A27 0 c27 []) (h29 : IsB w A29 2 c29 [4#8, 0#8]) (hq : IsK w (some ⟨q, 0, none⟩) 2 2 (.cons false [99#8, 97#8, 116#8] .nil (.cons false [100#8, 111#8, 103#8] .nil .nil))) (hL : IsB w (some ⟨qL, 0, none⟩) 56 56 z8) (W6 : ByteArray) (hW : W6 = str (wrap false z8 Fo.nil.form)) :
    ∀ i, i < 9 → KnI (w.alloc (.cells (nineC A1 A4 A7 A10 A27 A29 c1 c4 c7 c10 c27 c29 q qL W6) 27)) w.heap.size (i * 4) := by
  subst hW
  intro i hi
  have hk := keep_below (ba w (.cells (nineC A1 A4 A7 A10 A27 A29 c1 c4 c7 c10 c27 c29 q qL (str (wrap false z8 Fo.nil.form))) 27))
  match i, hi with
  | 0, _ => exact ⟨false, A1, 3, c1, none, 0, 0, [100#8, 111#8, 103#8], .nil, by simp [nineC], by simp [nineC], by simp [nineC], by simp [nineC] <;> rfl, h1.keep hk, isK_none _, (show encW false [100#8, 111#8, 103#8] .nil = 0 ∧ (wrap false [100#8, 111#8, 103#8] (Fo.form .nil)).length < B30 by decide).1, (show encW false [100#8, 111#8, 103#8] .nil = 0 ∧ (wrap false [100#8, 111#8, 103#8] (Fo.form .nil)).length < B30 by decide).2⟩
  | 1, _ => exact ⟨false, A4, 0, c4, none, 0, 0, [], .nil, by simp [nineC], by simp [nineC], by simp [nineC], by simp [nineC] <;> rfl, h4.keep hk, isK_none _, (show encW false [] .nil = 0 ∧ (wrap false [] (Fo.form .nil)).length < B30 by decide).1, (show encW false [] .nil = 0 ∧ (wrap false [] (Fo.form .nil)).length < B30 by decide).2⟩
  | 2, _ => exact ⟨false, A7, 1, c7, none, 0, 0, [15#8], .nil, by simp [nineC], by simp [nineC], by simp [nineC], by simp [nineC] <;> rfl, h7.keep hk, isK_none _, (show encW false [15#8] .nil = 0 ∧ (wrap false [15#8] (Fo.form .nil)).length < B30 by decide).1, (show encW false [15#8] .nil = 0 ∧ (wrap false [15#8] (Fo.form .nil)).length < B30 by decide).2⟩
  | 3, _ => exact ⟨false, A10, 1, c10, none, 0, 0, [128#8], .nil, by simp [nineC], by simp [nineC], by simp [nineC], by simp [nineC] <;> rfl, h10.keep hk, isK_none _, (show encW false [128#8] .nil = 0 ∧ (wrap false [128#8] (Fo.form .nil)).length < B30 by decide).1, (show encW false [128#8] .nil = 0 ∧ (wrap false [128#8] (Fo.form .nil)).length < B30 by decide).2⟩
  | 4, _ => exact ⟨true, none, 0, 0, none, 0, 0, [], .nil, by simp [nineC], by simp [nineC], by simp [nineC], by simp [nineC] <;> rfl, isB_none _, isK_none _, (show encW true [] .nil = 0 ∧ (wrap true [] (Fo.form .nil)).length < B30 by decide).1, (show encW true [] .nil = 0 ∧ (wrap true [] (Fo.form .nil)).length < B30 by decide).2⟩
  | 5, _ => exact ⟨true, none, 0, 0, (some ⟨q, 0, none⟩), 2, 2, [], (.cons false [99#8, 97#8, 116#8] .nil (.cons false [100#8, 111#8, 103#8] .nil .nil)), by simp [nineC], by simp [nineC], by simp [nineC], by simp [nineC] <;> rfl, isB_none _, hq.keep hk, (show encW true [] (.cons false [99#8, 97#8, 116#8] .nil (.cons false [100#8, 111#8, 103#8] .nil .nil)) = 0 ∧ (wrap true [] (Fo.form (.cons false [99#8, 97#8, 116#8] .nil (.cons false [100#8, 111#8, 103#8] .nil .nil)))).length < B30 by decide).1, (show encW true [] (.cons false [99#8, 97#8, 116#8] .nil (.cons false [100#8, 111#8, 103#8] .nil .nil)) = 0 ∧ (wrap true [] (Fo.form (.cons false [99#8, 97#8, 116#8] .nil (.cons false [100#8, 111#8, 103#8] .nil .nil)))).length < B30 by decide).2⟩
  | 6, _ => exact ⟨false, (some ⟨qL, 0, none⟩), 56, 56, none, 0, 0, z8, .nil, by simp [nineC], by simp [nineC], by simp [nineC], by simp [nineC] <;> rfl, hL.keep hk, isK_none _, enc6.1, enc6.2⟩
  | 7, _ => exact ⟨false, A27, 0, c27, none, 0, 0, [], .nil, by simp [nineC], by simp [nineC], by simp [nineC], by simp [nineC] <;> rfl, h27.keep hk, isK_none _, (show encW false [] .nil = 0 ∧ (wrap false [] (Fo.form .nil)).length < B30 by decide).1, (show encW false [] .nil = 0 ∧ (wrap false [] (Fo.form .nil)).length < B30 by decide).2⟩
  | 8, _ => exact ⟨false, A29, 2, c29, none, 0, 0, [4#8, 0#8], .nil, by simp [nineC], by simp [nineC], by simp [nineC], by simp [nineC] <;> rfl, h29.keep hk, isK_none _, (show encW false [4#8, 0#8] .nil = 0 ∧ (wrap false [4#8, 0#8] (Fo.form .nil)).length < B30 by decide).1, (show encW false [4#8, 0#8] .nil = 0 ∧ (wrap false [4#8, 0#8] (Fo.form .nil)).length < B30 by decide).2⟩
theorem seven (w : World) : ∀ i, i < 7 → ∃ bs p k, (w.alloc (.cells #[.string ⟨#[]⟩, .string ⟨#[129, 15]⟩, .string ⟨#[131, 100, 111]⟩, .string ⟨#[184, 1, 97]⟩, .string ⟨#[193]⟩, .string ⟨#[128, 128]⟩, .string ⟨#[248, 1, 128]⟩] 9)).cell? ⟨w.heap.size, i, none⟩ = some (.string (str bs)) ∧ bs.length ≤ maxLen ∧ dec bs = .bad p k := by
  intro i hi
  match i, hi with
  | 0, _ => obtain ⟨p, k, h⟩ := bad_of (bs := []) (by first | kernel_rfl | decide | simp [isBad, dec, upto, one, items, hd, at']); exact ⟨[], p, k, by simp <;> rfl, by decide, h⟩
  | 1, _ => obtain ⟨p, k, h⟩ := bad_of (bs := [129#8, 15#8]) (by first | kernel_rfl | decide | simp [isBad, dec, upto, one, items, hd, at']); exact ⟨[129#8, 15#8], p, k, by simp <;> rfl, by decide, h⟩
  | 2, _ => obtain ⟨p, k, h⟩ := bad_of (bs := [131#8, 100#8, 111#8]) (by first | kernel_rfl | decide | simp [isBad, dec, upto, one, items, hd, at']); exact ⟨[131#8, 100#8, 111#8], p, k, by simp <;> rfl, by decide, h⟩
  | 3, _ => obtain ⟨p, k, h⟩ := bad_of (bs := [184#8, 1#8, 97#8]) (by first | kernel_rfl | decide | simp [isBad, dec, upto, one, items, hd, at']); exact ⟨[184#8, 1#8, 97#8], p, k, by simp <;> rfl, by decide, h⟩
  | 4, _ => obtain ⟨p, k, h⟩ := bad_of (bs := [193#8]) (by first | kernel_rfl | decide | simp [isBad, dec, upto, one, items, hd, at']); exact ⟨[193#8], p, k, by simp <;> rfl, by decide, h⟩
  | 5, _ => obtain ⟨p, k, h⟩ := bad_of (bs := [128#8, 128#8]) (by first | kernel_rfl | decide | simp [isBad, dec, upto, one, items, hd, at']); exact ⟨[128#8, 128#8], p, k, by simp <;> rfl, by decide, h⟩
  | 6, _ => obtain ⟨p, k, h⟩ := bad_of (bs := [248#8, 1#8, 128#8]) (by first | kernel_rfl | decide | simp [isBad, dec, upto, one, items, hd, at']); exact ⟨[248#8, 1#8, 128#8], p, k, by simp <;> rfl, by decide, h⟩
end Rl
end Go.Proofs.YthlmjcochpodgaaDoor
