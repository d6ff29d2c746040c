/-
  rlp: headOf as the plain head. Own work.
-/
import Derived.Test.YthlmjcochpodgaaDoorRm
namespace Go.Proofs.YthlmjcochpodgaaDoor
open Go.ChangeShapes Go.WideShapes Go.Deep Go.RowKit
set_option linter.unusedVariables false
set_option linter.unusedSimpArgs false
namespace Rl
/-- A head's answer. -/
def hOut : Hd → Value → Prop
  | .bad k, v => ∃ l, v = .tuple #[hv l 0 0, eN k]
  | .ok l s n, v => v = .tuple #[hv l s n, .nilIface]
/-- What long answers, told in a list's stead, too. -/
def lOut (l : Bool) : Hd → Value × Value
  | .bad k => (hv l 0 0, eN k)
  | .ok _ s n => (hv l s n, .nilIface)
theorem long_hd (w : World) (n c m b o : Nat) (bs : List Bt) (hB : IsB w (some ⟨b, o, none⟩) n c bs) (hn1 : 1 ≤ n) (hn2 : n ≤ 4096) (hm0 : 1 ≤ m) (hm : m ≤ 8) (l : Bool) :
    ∃ (s q : Int) (er : Value), hOut (hdL bs 0 n m l) (.tuple #[hv l s q, er]) ∧ ∀ y, Below w.heap.size w y → Calls Tryd.prog 52 #[.slice (some ⟨b, o, none⟩) n c, .int .i64 m] y fun e w' => e = .returned (.tuple #[.agg #[.bool false, .int .i64 s, .int .i64 q], er]) ∧ Below y.heap.size y w' := by
  unfold hdL at'
  rw [Nat.zero_add]
  by_cases h1 : n < 1 + m
  · rw [if_pos h1]
    exact ⟨0, 0, eN 11, ⟨l, rfl⟩, fun y hy => long_end y n c m _ hn1 hm (by omega)⟩
  · rw [if_neg h1]
    by_cases h2 : n < 1 + m + num 0 (slc bs 1 m)
    · rw [if_pos h2]
      refine ⟨0, 0, eN 11, ⟨l, rfl⟩, fun y hy => ?_⟩
      have := long_walk y n c m b o bs (hB.keep (keep_below hy)) hn2 hm0 hm (by omega)
      rw [if_pos (by omega)] at this
      exact this
    · rw [if_neg h2]
      by_cases h3 : (bs.getD 1 0#8).toNat = 0 ∨ num 0 (slc bs 1 m) < 56
      · rw [if_pos h3]
        refine ⟨0, 0, eN 12, ⟨l, rfl⟩, fun y hy => ?_⟩
        have := long_walk y n c m b o bs (hB.keep (keep_below hy)) hn2 hm0 hm (by omega)
        rw [if_neg (by omega), if_pos h3] at this
        exact this
      · rw [if_neg h3]
        refine ⟨(1 + m : Nat), num 0 (slc bs 1 m), .nilIface, rfl, fun y hy => ?_⟩
        have := long_walk y n c m b o bs (hB.keep (keep_below hy)) hn2 hm0 hm (by omega)
        rw [if_neg (by omega), if_neg h3] at this
        exact this
set_option maxRecDepth 100000 in
theorem headOf_walk (w : World) (n c b o : Nat) (bs : List Bt) (hB : IsB w (some ⟨b, o, none⟩) n c bs) (hn1 : 1 ≤ n) (hn2 : n ≤ 4096) :
    Calls Tryd.prog 43 #[.slice (some ⟨b, o, none⟩) n c] w fun e w' => ∃ v, e = .returned v ∧ hOut (hd bs 0 n) v ∧ Below w.heap.size w w' := by
  obtain ⟨b0, o0, e0, hc⟩ := hB.cellAt (j := 0) (by omega)
  injection e0 with e0
  injection e0 with e1 e2
  subst e1 e2
  have hc : w.cell? ⟨b, o, none⟩ = some (.int .u8 ((at' bs 0 : Nat) : Int)) := hc
  have hF8 : at' bs 0 < 256 := BitVec.isLt _
  have fin : ∀ {v : Value}, hOut (hd bs 0 n) v → (Calls Tryd.prog 43 #[.slice (some ⟨b, o, none⟩) n c] w fun e w' => e = .returned v ∧ Below w.heap.size w w') → Calls Tryd.prog 43 #[.slice (some ⟨b, o, none⟩) n c] w fun e w' => ∃ v, e = .returned v ∧ hOut (hd bs 0 n) v ∧ Below w.heap.size w w' := fun {v} h1 h2 => by
    refine h2.mono ?_
    rintro e w' ⟨rfl, hb⟩
    exact ⟨v, rfl, h1, hb⟩
  unfold hd at fin ⊢
  generalize hF : at' bs 0 = F at *
  by_cases h1 : F < 128
  · rw [if_pos h1] at fin ⊢
    exact fin rfl (head_one w n c b o F h1 hc hn1)
  · rw [if_neg h1] at fin ⊢
    by_cases h2 : F ≤ 183
    · rw [if_pos h2] at fin ⊢
      have e : ((F : Int) - 128) = ((F - 128 : Nat) : Int) := by omega
      by_cases h3 : n < 0 + 1 + (F - 128)
      · rw [if_pos h3] at fin ⊢
        exact fin ⟨false, rfl⟩ (head_text_bad w n c b o F (by omega) h2 hc hn1 11 fun y hy => by rw [e]; exact short_end y n c (F - 128) _ hn1 (by omega) (by omega))
      · rw [if_neg h3] at fin ⊢
        have hs : ∀ y, Below w.heap.size w y → Calls Tryd.prog 51 #[.slice (some ⟨b, o, none⟩) n c, .int .i64 ((F : Int) - 128)] y fun e w' => e = .returned (.tuple #[.agg #[.bool false, .int .i64 1, .int .i64 (F - 128 : Nat)], .nilIface]) ∧ Below y.heap.size y w' := fun y hy => by
          rw [e]; exact short_ok y n c (F - 128) _ hn1 hn2 (by omega)
        by_cases h4 : F - 128 = 1
        · rw [h4] at hs
          obtain ⟨b1, o1, e1, g1⟩ := hB.cellAt (j := 1) (by omega)
          injection e1 with e1
          injection e1 with e3 e4
          subst e3 e4
          have g1 : w.cell? ⟨b, o + 1, none⟩ = some (.int .u8 ((at' bs 1 : Nat) : Int)) := g1
          by_cases h5 : at' bs (0 + 1) < 128
          · rw [if_pos ⟨h4, h5⟩] at fin ⊢
            exact fin ⟨false, rfl⟩ (head_text_form w n c b o F (by omega) h2 hc hn1 (at' bs 1) h5 (by omega) g1 hs)
          · rw [if_neg (fun h => h5 h.2)] at fin ⊢
            exact fin (by rw [h4]; rfl) (head_text_one w n c b o F (by omega) h2 hc hn1 (at' bs 1) (Nat.not_lt.1 h5) (by omega) g1 hs)
        · rw [if_neg (fun h => h4 h.1)] at fin ⊢
          exact fin rfl (head_text_ok w n c b o F (by omega) h2 hc hn1 (F - 128) h4 hs)
    · rw [if_neg h2] at fin ⊢
      by_cases h3 : F < 192
      · rw [if_pos h3] at fin ⊢
        have e : ((F : Int) - 183) = ((F - 183 : Nat) : Int) := by omega
        obtain ⟨s, q, er, h4, h5⟩ := long_hd w n c (F - 183) b o bs hB hn1 hn2 (by omega) (by omega) false
        exact fin h4 (head_long w n c b o F (by omega) h3 hc hn1 false s q er (by rw [e]; exact h5))
      · rw [if_neg h3] at fin ⊢
        by_cases h4 : F ≤ 247
        · rw [if_pos h4] at fin ⊢
          have e : ((F : Int) - 192) = ((F - 192 : Nat) : Int) := by omega
          by_cases h5 : n < 0 + 1 + (F - 192)
          · rw [if_pos h5] at fin ⊢
            exact fin ⟨true, rfl⟩ (head_list w n c b o F (by omega) h4 hc hn1 false 0 0 (eN 11) fun y hy => by rw [e]; exact short_end y n c (F - 192) _ hn1 (by omega) (by omega))
          · rw [if_neg h5] at fin ⊢
            exact fin rfl (head_list w n c b o F (by omega) h4 hc hn1 false 1 (F - 192 : Nat) .nilIface fun y hy => by rw [e]; exact short_ok y n c (F - 192) _ hn1 hn2 (by omega))
        · rw [if_neg h4] at fin ⊢
          have e : ((F : Int) - 247) = ((F - 247 : Nat) : Int) := by omega
          obtain ⟨s, q, er, h5, h6⟩ := long_hd w n c (F - 247) b o bs hB hn1 hn2 (by omega) (by omega) true
          exact fin h5 (head_biglist w n c b o F (by omega) hF8 hc hn1 false s q er (by rw [e]; exact h6))
end Rl
end Go.Proofs.YthlmjcochpodgaaDoor
