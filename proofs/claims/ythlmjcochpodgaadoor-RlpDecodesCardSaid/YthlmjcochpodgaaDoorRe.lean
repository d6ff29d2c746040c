/-
  rlp: Encode. Own work.
-/
import Derived.Test.YthlmjcochpodgaaDoorRd
import Derived.RegionTactic
namespace Go.Proofs.YthlmjcochpodgaaDoor
open Go.ChangeShapes Go.WideShapes Go.Deep Go.RowKit
set_option linter.unusedVariables false
set_option linter.unusedSimpArgs false
namespace Rl
def eN (k : Int) : Value := .iface 61 (.int .i64 k)
/-- What Encode's way is: 13 (deep), 3 (no item), 5 (too long), 0. -/
def encW (l : Bool) (bs : List Bt) (k : Fo) : Int := if dp k 16 then 13 else if whole l bs.length k then (if 4096 < (wrap l bs k.form).length then 5 else 0) else 3
set_option maxHeartbeats 4000000 in
set_option maxRecDepth 100000 in
theorem encode_walk (w : World) (l : Bool) (n c n' c' : Nat) (a a' : Option Addr) (bs : List Bt) (k : Fo) (hB : IsB w a n c bs) (hK : IsK w a' n' c' k) (hs : (wrap l bs k.form).length < B30) :
    Calls Tryd.prog 13 #[.agg #[.bool l, .slice a n c, .slice a' n' c']] w fun e w' => ∃ V, e = .returned (.tuple #[V, if encW l bs k = 0 then .nilIface else eN (encW l bs k)]) ∧ Own w' w.heap.size V (if encW l bs k = 0 then wrap l bs k.form else []) ∧ Below w.heap.size w w' := by
  have HB0 : Hid (Below w.heap.size w (w.alloc (.cells #[.bool l, .slice a n c, .slice a' n' c'] 25))) := Lib.hid ((Below.refl _ _).alloc (Nat.le_refl _) _)
  have HBB := Lib.hid hB
  have HK := Lib.hid hK
  have HS := Lib.hid hs
  have HEN : Hid (n = bs.length) := Lib.hid hB.1
  clear hB hK hs
  generalize hd : dp k 16 = D at *
  have HD := Lib.hid (deeper_walk 16 (by decide) (w.alloc (.cells #[.bool l, .slice a n c, .slice a' n' c'] 25)) l n c n' c' a a' k (HK.out.keep (keep_below HB0.out)))
  rw [hd, show ((16 : Nat) : Int) = 16 from rfl] at HD
  generalize hwh : whole l bs.length k = Wh at *
  have HE : Hid (∀ y, Below w.heap.size w y → Calls Tryd.prog 27 #[.agg #[.bool l, .slice a n c, .slice a' n' c'], .func (.func 28) #[] #[]] y fun e w' => e = .returned (.bool Wh) ∧ Below y.heap.size y w') := Lib.hid (fun y hy => by
    have := every_walk y l n c n' c' a a' k (HK.out.keep (keep_below hy))
    rw [HEN.out, hwh, ← HEN.out] at this; exact this)
  have HZ : Hid (∀ y, Wh = true → Below w.heap.size w y → Calls Tryd.prog 29 #[.agg #[.bool l, .slice a n c, .slice a' n' c']] y fun e w' => e = .returned (.int .i64 (wrap l bs k.form).length) ∧ Below y.heap.size y w') :=
    Lib.hid (fun y h hy => size_walk y l n c n' c' a a' bs k (HBB.out.keep (keep_below hy)) (HK.out.keep (keep_below hy)) HS.out (by rw [hwh]; exact h))
  have HEW : Hid (encW l bs k = if D then 13 else if Wh then (if 4096 < (wrap l bs k.form).length then 5 else 0) else 3) := Lib.hid (by unfold encW; rw [hd, hwh])
  have HWH := Lib.hid hwh
  clear hd hwh
  generalize hL : (wrap l bs k.form).length = L at *
  have HL := Lib.hid hL
  clear hL
  generalize encW l bs k = E at *
  generalize her : (if E = 0 then Value.nilIface else eN E) = er at *
  generalize hzs : (if E = 0 then wrap l bs k.form else []) = zs at *
  have HER := Lib.hid her
  have HZS := Lib.hid hzs
  clear her hzs
  go_enter Tryd.func13, Tryd.ntmps13
  go_upto_region 9 with (first
    | (go_at_call 26; (with_reducible refine HD.out.mono ?_); rintro e y1 ⟨rfl, hb⟩; have H1 := Lib.hid (bl HB0.out hb); have g0 := keep1 hb (o := 0) (b := w.heap.size) (x := .bool l) (by simp); have g1 := keep1 hb (o := 1) (b := w.heap.size) (x := .slice a n c) (by simp); have g2 := keep1 hb (o := 2) (b := w.heap.size) (x := .slice a' n' c') (by simp); clear hb HD)
    | (go_at_call 27; (with_reducible refine (HE.out _ H1.out).mono ?_); rintro e y2 ⟨rfl, hb⟩; have H2 := Lib.hid (bl H1.out hb); have g0 := keep1 hb g0; have g1 := keep1 hb g1; have g2 := keep1 hb g2; clear hb HE)
    | (go_at_call 29; (with_reducible refine (HZ.out _ (by simpa using ‹(!Wh) = false›) H2.out).mono ?_); rintro e y3 ⟨rfl, hb⟩; have H3 := Lib.hid (bl H2.out hb); have g0 := keep1 hb g0; have g1 := keep1 hb g1; have g2 := keep1 hb g2; clear hb HZ))
  · go_ret2
    have e : E = 13 := by rw [HEW.out, if_pos ‹D = true›]
    refine ⟨.slice none 0 0, ?_, ?_, H1.out⟩
    · rw [← HER.out, e]; rfl
    · rw [← HZS.out, e, if_neg (by decide)]; exact Own.nil _ _
  · go_ret2
    have e : E = 3 := by rw [HEW.out, if_neg (by rw [‹D = false›]; decide), if_neg (by intro h; have h2 := ‹(!Wh) = true›; rw [h] at h2; cases h2)]
    refine ⟨.slice none 0 0, ?_, ?_, H2.out⟩
    · rw [← HER.out, e]; rfl
    · rw [← HZS.out, e, if_neg (by decide)]; exact Own.nil _ _
  · go_ret2
    have e : E = 5 := by rw [HEW.out, if_neg (by rw [‹D = false›]; decide), if_pos (by simpa using ‹(!Wh) = false›), if_pos (by omega)]
    refine ⟨.slice none 0 0, ?_, ?_, H3.out⟩
    · rw [← HER.out, e]; rfl
    · rw [← HZS.out, e, if_neg (by decide)]; exact Own.nil _ _
  · have e : E = 0 := by rw [HEW.out, if_neg (by rw [‹D = false›]; decide), if_pos (by simpa using ‹(!Wh) = false›), if_neg (by omega)]
    have HZ0 : Hid (zs = wrap l bs k.form) := Lib.hid (by rw [← HZS.out, e, if_pos rfl])
    have HE0 : Hid (er = .nilIface) := Lib.hid (by rw [← HER.out, e, if_pos rfl])
    have HFm : Hid (∀ y V, Below w.heap.size w y → Own y w.heap.size V [] → Calls Tryd.prog 30 #[V, .agg #[.bool l, .slice a n c, .slice a' n' c']] y fun e w' => ∃ V', e = .returned V' ∧ Own w' w.heap.size V' zs ∧ Below w.heap.size w w') :=
      Lib.hid (fun y V hy ho => by
        have := form_walk w y V [] l n c n' c' a a' bs k (by rw [HWH.out]; simpa using ‹(!Wh) = false›) HBB.out HK.out hy ho (by rw [List.nil_append, HL.out]; omega)
        rw [List.nil_append, ← HZ0.out] at this; exact this)
    obtain ⟨zc, hzc, hmk⟩ : ∃ zc : Array Value, zc.size = L * 1 ∧ ∀ y : World, (Instr.makeSlice 22 (.int .i64 0) (.int .i64 (L : Int))).run Tryd.prog y = .ok (.slice (some ⟨y.heap.size, 0, none⟩) 0 L) (y.alloc (.cells zc 5)) := by
      obtain ⟨i, hi1, hi2, hi3, hi4⟩ := one1
      refine ⟨madeCells (Value.int .u8 0).cells (((L : Int)).toNat * i.size), by rw [size_madeCells, hi3]; simp, fun y => ?_⟩
      have := run_makeSlice (P := Tryd.prog) y 22 5 i (.int .u8 0) und22 hi1 hi2 .i64 .i64 0 (L : Int) (by omega) (by omega) (by rw [hi3]; omega) (by rw [hi4]; omega) (by omega)
      simpa using this
    have HLL : Hid (L ≤ 4096) := Lib.hid (by omega)
    have HZC := Lib.hid hzc
    have HOW : Hid (∀ y : World, Below w.heap.size w y → Own (y.alloc (.cells zc 5)) w.heap.size (.slice (some ⟨y.heap.size, 0, none⟩) 0 L) []) := Lib.hid (fun y hy => World.ownsRow_made y zc L hy.size (by have := HLL.out; unfold maxLen; omega) HZC.out)
    have k0 := keep1 ((Below.refl y3.heap.size y3).alloc (Nat.le_refl _) (.cells zc 5)) ‹y3.cell? ⟨w.heap.size, 0, none⟩ = _›
    have k1 := keep1 ((Below.refl y3.heap.size y3).alloc (Nat.le_refl _) (.cells zc 5)) ‹y3.cell? ⟨w.heap.size, 1, none⟩ = _›
    have k2 := keep1 ((Below.refl y3.heap.size y3).alloc (Nat.le_refl _) (.cells zc 5)) ‹y3.cell? ⟨w.heap.size, 2, none⟩ = _›
    clear HZS HER HEW HWH HL HS HB0 HBB HK HEN H1 H2 HZ0 e hzc HZC
    have HCALL := Lib.hid (HFm.out ((y3.alloc (.cells zc 5)).drew) (.slice (some ⟨y3.heap.size, 0, none⟩) 0 L) ((H3.out.alloc H3.out.size _).drew) (HOW.out y3 H3.out).drew)
    clear HFm HOW
    go_region_with ((with_reducible refine HCALL.out.mono ?_); rintro e y4 ⟨V4, rfl, hO, hb⟩; have H4 := Lib.hid (And.intro hO hb); clear hO hb HCALL)
    all_goals go_wp2_with (fail)
    all_goals go_ret2
    all_goals exact ⟨V4, by rw [HE0.out]; rfl, H4.out.1, H4.out.2⟩
end Rl
end Go.Proofs.YthlmjcochpodgaaDoor
