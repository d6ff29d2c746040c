/-
  mootlaw03: fixed. Own work.
-/
import Derived.Test.YthlmjcochpodgaaDoorJ5
import Derived.Test.YthlmjcochpodgaaDoorJ7
namespace Go.Proofs.YthlmjcochpodgaaDoor
open Go.ChangeShapes Go.WideShapes Go.Deep Go.RowKit
set_option linter.unusedVariables false
set_option linter.unusedSimpArgs false
namespace Rl
def k0 : Fo := .cons false [7#8] .nil (.cons false [] .nil .nil)
theorem k0_enc : encW true [] k0 = 0 ∧ wrap true [] k0.form = [194#8, 7#8, 128#8] := by decide
theorem fix_dec : dec [193#8, 129#8, 7#8] = .bad 1 11 := by simp [dec, upto, one, items, hd, at']
abbrev fw1 (w : World) : World := (w.alloc (.cells #[.int .u8 7] 5)).alloc (.cells #[.bool false, .slice (some ⟨w.heap.size, 0, none⟩) 1 1, .slice none 0 0, .bool false, .slice none 0 0, .slice none 0 0] 25)
theorem fw1_k (w : World) : IsK (fw1 w) (some ⟨w.heap.size + 1, 0, none⟩) 2 2 k0 := by
  refine ⟨rfl, Nat.le_refl _, by decide, fun e => (by cases e), .inr ⟨_, 0, rfl, ?_⟩⟩
  have hnil : IsB (fw1 w) none 0 0 [] := ⟨rfl, Nat.le_refl _, by decide, fun _ => rfl, .inl rfl⟩
  refine ⟨by simp [fw1], ⟨some ⟨w.heap.size, 0, none⟩, 1, 1, by simp [fw1], rfl, Nat.le_refl _, by decide, fun e => (by cases e), .inr ⟨_, 0, rfl, fun i x hx => ?_⟩⟩, ⟨none, 0, 0, by simp [fw1], rfl, Nat.le_refl _, by decide, fun _ => rfl, .inl rfl⟩,
    by simp [fw1], ⟨none, 0, 0, by simp [fw1], hnil⟩, ⟨none, 0, 0, by simp [fw1], rfl, Nat.le_refl _, by decide, fun _ => rfl, .inl rfl⟩, trivial⟩
  match i with
  | 0 => simp at hx; subst hx; exact keep1 (ba _ _) (by simp [bvb])
  | i + 1 => simp at hx
set_option maxHeartbeats 4000000 in
set_option maxRecDepth 100000 in
theorem fixed_walk (w : World) (hg : Et w) : Calls Tryd.prog 15 #[] w fun e w' => e = .returned (.bool true) ∧ Below w.heap.size w w' := by
  have HG := Lib.hid hg
  have HB1 := Lib.hid (show Below w.heap.size w (fw1 w) from bl (ba _ _) (ba _ _))
  have HC : Hid (Calls Tryd.prog 13 #[.agg #[.bool true, .slice none 0 0, .slice (some ⟨w.heap.size + 1, 0, none⟩) 2 2]] (fw1 w) fun e w' => ∃ V, e = .returned (.tuple #[V, .nilIface]) ∧ Own w' (fw1 w).heap.size V [194#8, 7#8, 128#8] ∧ Below (fw1 w).heap.size (fw1 w) w') := Lib.hid (by
    have := encode_walk (fw1 w) true 0 0 2 2 none (some ⟨w.heap.size + 1, 0, none⟩) [] k0 ⟨rfl, Nat.le_refl _, by decide, fun _ => rfl, .inl rfl⟩ (fw1_k w) (by rw [k0_enc.2]; decide)
    rw [k0_enc.1, k0_enc.2] at this
    exact this)
  clear hg
  go_enter Tryd.func15, Tryd.ntmps15
  go_wp2_with (first
    | (go_at_call 13; (with_reducible refine HC.out.mono ?_); rintro e y1 ⟨V, rfl, hO, hb⟩
       have H1 := Lib.hid (And.intro hO (bl HB1.out hb))
       have HA := Lib.hid (ba y1 (.cells #[.int .u8 193, .int .u8 129, .int .u8 7] 5))
       have HD : Hid (Calls Tryd.prog 14 #[.slice (some ⟨y1.heap.size, 0, none⟩) 3 3] (y1.alloc (.cells #[.int .u8 193, .int .u8 129, .int .u8 7] 5)) fun r w' => decOut (y1.alloc (.cells #[.int .u8 193, .int .u8 129, .int .u8 7] 5)).heap.size w' (.bad 1 11) r ∧ Below (y1.alloc (.cells #[.int .u8 193, .int .u8 129, .int .u8 7] 5)).heap.size (y1.alloc (.cells #[.int .u8 193, .int .u8 129, .int .u8 7] 5)) w') := Lib.hid (by
         have := decode_walk (y1.alloc (.cells #[.int .u8 193, .int .u8 129, .int .u8 7] 5)) (some ⟨y1.heap.size, 0, none⟩) 3 3 [193#8, 129#8, 7#8] ⟨rfl, Nat.le_refl _, by decide, fun e => (by cases e), .inr ⟨_, 0, rfl, fun i x hx => by
           match i with
           | 0 => simp at hx; subst hx; simp [bvb]
           | 1 => simp at hx; subst hx; simp [bvb]
           | 2 => simp at hx; subst hx; simp [bvb]
           | i + 3 => simp at hx⟩⟩
         rw [fix_dec] at this; exact this)
       clear hO hb HC)
    | (go_at_call 14; (with_reducible refine HD.out.mono ?_); rintro e y2 ⟨⟨_, rfl, q, rfl, hq, hc0, hc1⟩, hb⟩
       have H2 := Lib.hid (bl (bl H1.out.2 HA.out) hb)
       have HQ := Lib.hid (And.intro hq (And.intro hc0 hc1))
       have H3 := Lib.hid ((H1.out.1.below HA.out).below hb)
       unfold zIt
       have HA2 := Lib.hid (ba y2 (.cells #[.bool false, .slice none 0 0, .slice none 0 0] 25))
       have HWY := Lib.hid (why_flt (y2.alloc (.cells #[.bool false, .slice none 0 0, .slice none 0 0] 25)) q 1 11 (HG.out.next (bl H2.out HA2.out)) (keep1 HA2.out hc0) (keep1 HA2.out hc1))
       clear hq hc0 hc1 hb HD)
    | (go_at_call 19; (with_reducible refine HWY.out.mono ?_); rintro e y3 ⟨rfl, hb⟩
       have H4 := Lib.hid (bl (bl H2.out HA2.out) hb)
       have hO3 := (H3.out.below HA2.out).below hb
       obtain ⟨a3, c3, rfl, hB3⟩ := hO3.isB
       have hcv : (convert 22 9 (.slice a3 3 c3)).run Tryd.prog y3 = .ok (.string ⟨#[194, 7, 128]⟩) y3 := conv_str hB3
       have HIS := Lib.hid (Err.is_fault q 11 11 y3 (keep1 hb (keep1 HA2.out HQ.out.2.2)))
       clear hb hO3 hB3 HWY)
    | (go_at_call 32; (with_reducible refine HIS.out.mono ?_); rintro e y4 ⟨rfl, rfl⟩; clear HIS))
  go_ret
  exact ⟨rfl, H4.out⟩
end Rl
end Go.Proofs.YthlmjcochpodgaaDoor
