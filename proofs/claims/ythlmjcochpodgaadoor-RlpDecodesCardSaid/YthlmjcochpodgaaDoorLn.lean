/-
  RlpNumbers. Own work.
-/
import Derived.Test.YthlmjcochpodgaaDoorSp
import Derived.Test.YthlmjcochpodgaaDoorOrs
import Derived.Test.YthlmjcochpodgaaDoorRh
import Derived.Test.YthlmjcochpodgaaDoorFz
namespace Go.Proofs.YthlmjcochpodgaaDoor
open Go.ChangeShapes Go.WideShapes Go.Deep Go.RowKit
set_option linter.unusedVariables false
set_option linter.unusedSimpArgs false
namespace Rl
theorem valW_big {m : Nat} (hm : m < 18446744073709551616) : valW false (big m) = 0 := by
  have h1 := big_le m
  have h2 : ∀ x r, big m = x :: r → x ≠ 0#8 := fun x r h => digs_first 8 m x r h (by simpa using hm)
  unfold valW
  rw [if_neg (by decide), if_neg]
  rintro (h | h)
  · omega
  · cases hb : big m with
    | nil => rw [hb] at h; cases h
    | cons x r => rw [hb] at h; injection h with h; exact h2 x r hb h
/-- Why of an error that is nil or a number. -/
theorem why_of (y : World) (E : Int) (hg : Et y) : Calls Tryd.prog 19 #[if E = 0 then .nilIface else eN E] y fun e w' => e = .returned (.tuple #[.int .i64 E, .int .i64 (-1)]) ∧ Below y.heap.size y w' := by
  by_cases h : E = 0
  · subst h
    rw [if_pos rfl]
    refine (why_nil y).mono ?_
    rintro e w' ⟨h1, rfl⟩
    exact ⟨h1, Below.refl _ _⟩
  · rw [if_neg h]; exact why_num E y hg
theorem great_here (w : World) (l : Bool) (n c n' c' : Nat) (a a' : Option Addr) (bs : List Bt) (k : Fo) (hB : IsB w a n c bs) (hK : IsK w a' n' c' k) (hl : bs.length ≤ reachBytes) (hf : k.fit) :
    Calls Tryd.prog 16 #[.agg #[.bool l, .slice a n c, .slice a' n' c']] w fun e w' => e = .returned (.bool (great bs.length k)) ∧ Below w.heap.size w w' := by
  have := great_walk w l n c n' c' a a' k hK hf (by rw [hB.1]; exact hl)
  rw [hB.1] at this ⊢; exact this
set_option maxHeartbeats 4000000 in
set_option maxRecDepth 100000 in
theorem rlpNumbers_walk (w : World) (v : Int) (l : Bool) (n c n' c' : Nat) (a a' : Option Addr) (bs : List Bt) (k : Fo) (hv : (Lit.int .u64 v).wf = true) (hB : IsB w a n c bs) (hK : IsK w a' n' c' k) (hl : bs.length ≤ reachBytes) (hf : k.fit) (hg : Et w) :
    Calls Tryd.prog 10 #[.int .u64 v, .agg #[.bool l, .slice a n c, .slice a' n' c']] w fun e w' => e = .returned (.bool true) ∧ Below w.heap.size w w' := by
  obtain ⟨m, rfl, hm⟩ : ∃ m : Nat, v = m ∧ m < 18446744073709551616 := by
    have hw2 := Bool.and_eq_true_iff.1 hv
    have h1 : (0 : Int) ≤ v := of_decide_eq_true hw2.1
    have h2 : v ≤ (18446744073709551615 : Int) := of_decide_eq_true hw2.2
    exact ⟨v.toNat, by omega, by omega⟩
  have HM := Lib.hid hm
  have HB0 := Lib.hid (ba w (.cells #[.bool l, .slice a n c, .slice a' n' c'] 25))
  have HX0 := Lib.hid (Box3.new w (.bool l) (.slice a n c) (.slice a' n' c') 25)
  have HG := Lib.hid hg
  have HBB := Lib.hid hB
  have HGR := Lib.hid (great_here _ l n c n' c' a a' bs k (hB.keep (keep_below HB0.out)) (hK.keep (keep_below HB0.out)) hl hf)
  clear hv hB hK hl hf hg hm
  generalize great bs.length k = G at *
  cases G with
  | true =>
    go_enter Tryd.func10, Tryd.ntmps10
    go_wp2_with (first
      | (go_at_call 16; (with_reducible refine HGR.out.mono ?_); rintro e y1 ⟨rfl, hb⟩; have H1 := Lib.hid (bl HB0.out hb); clear hb HGR)
      | (go_at_call 15; (with_reducible refine (fixed_walk _ (HG.out.next H1.out)).mono ?_); rintro e y2 ⟨rfl, hb⟩; have H2 := Lib.hid (bl H1.out hb); clear hb))
    go_ret
    exact ⟨rfl, H2.out⟩
  | false =>
    have HV1 : Hid (∀ y aN cN, IsB y aN (big m).length cN (big m) → Calls Tryd.prog 22 #[.agg #[.bool false, .slice aN (big m).length cN, .slice none 0 0]] y fun e w' => e = .returned (.tuple #[.int .u64 m, .nilIface]) ∧ Below y.heap.size y w') := Lib.hid (fun y aN cN h => by
      have := (value_walk y false (big m).length cN 0 0 aN none (big m) h).1
      rw [valW_big HM.out, if_pos rfl, if_pos rfl, big_num (by simpa using HM.out)] at this
      exact this)
    have HV2 : Hid (∀ y, Below w.heap.size w y → _ ∧ _) := Lib.hid (fun y hy => value_walk y l n c n' c' a a' bs (HBB.out.keep (keep_below hy)))
    generalize valW l bs = E at *
    generalize (if E = 0 then num 0 bs else 0 : Nat) = X at *
    have HWY := Lib.hid (fun y => why_of y E)
    generalize (if E = 0 then Value.nilIface else eN E) = er at *
    go_enter Tryd.func10, Tryd.ntmps10
    go_upto_region 7 with (first
      | (go_at_call 16; (with_reducible refine HGR.out.mono ?_); rintro e y1 ⟨rfl, hb⟩; have H1 := Lib.hid (bl HB0.out hb); have HX1 := Lib.hid (HX0.out.keep hb); clear hb HGR)
      | (go_at_call 12; (with_reducible refine (Number_walk _ m HM.out).mono ?_); rintro e y2 ⟨aN, cN, rfl, hBN, hb⟩; have H2 := Lib.hid (bl H1.out hb); have HX2 := Lib.hid (HX1.out.keep hb); have HN2 := Lib.hid hBN; clear hb hBN HX1)
      | (go_at_call 22; first
         | ((with_reducible refine (HV1.out _ _ _ HN2.out).mono ?_); rintro e y3 ⟨rfl, hb⟩; have H3 := Lib.hid (bl H2.out hb); have HX3 := Lib.hid (HX2.out.keep hb); obtain ⟨k0, k1, k2, _, _, _⟩ := HX3.out; clear hb HX2 HN2)
         | ((with_reducible refine (HV2.out _ H3.out).1.mono ?_); rintro e y4 ⟨rfl, hb⟩; have H4 := Lib.hid (bl H3.out hb); clear k0 k1 k2; obtain ⟨k0, k1, k2, _, _, _⟩ := HX3.out.keep hb; clear hb HX3))
      | (go_at_call 23; (with_reducible refine (HV2.out _ H4.out).2.mono ?_); rintro e y5 ⟨rfl, hb⟩; have H5 := Lib.hid (bl H4.out hb); clear hb k0 k1 k2)
      | (go_at_call 19; (with_reducible refine (HWY.out _ (HG.out.next H5.out)).mono ?_); rintro e y6 ⟨rfl, hb⟩; have H6 := Lib.hid (bl H5.out hb); clear hb))
    have HS : Hid (Below w.heap.size w y6.drew) := Lib.hid H6.out.drew
    refine wp_region_ors (fun y => Below w.heap.size w y) [(0, false), (1, false), (2, true), (3, false), (4, false), (5, false), (6, false), (7, false), (8, false), (9, false), (10, false), (11, true), (15, true), (12, false), (13, true), (14, true), (16, false), (17, false), (18, false), (19, false), (20, false), (21, true), (22, false), (23, false), (24, false), (25, false), (26, true), (27, false), (28, false), (29, false), (30, false)] (by kernel_rfl) (by kernel_rfl) HS.out ?_
    · refine wpOrs_f rfl (by go_simp) fun K hK => ?_
      go_simp
      refine (fixed_walk _ (HG.out.next HS.out)).mono ?_
      rintro e w7 ⟨rfl, hb⟩
      have HS := Lib.hid (bl HS.out hb)
      refine hK _ _ HS.out ?_
      clear hK K hb
      refine wpOrs_f rfl (by go_simp) fun K hK => ?_
      go_simp
      refine hK _ _ HS.out ?_
      clear hK K
      refine wpOrs_t rfl (by go_simp) (fun _ _ => rfl) ?_
      simp only [Act.put, List.setIfInBounds_toArray, List.set_cons_zero, List.set_cons_succ]
      refine wpOrs_f rfl (by go_simp) fun K hK => ?_
      go_simp
      refine hK _ _ HS.out ?_
      clear hK K
      refine wpOrs_f rfl (by go_simp) fun K hK => ?_
      go_simp
      refine hK _ _ HS.out ?_
      clear hK K
      refine wpOrs_f rfl (by go_simp) fun K hK => ?_
      go_simp
      refine hK _ _ HS.out ?_
      clear hK K
      refine wpOrs_f rfl (by go_simp) fun K hK => ?_
      go_simp
      refine hK _ _ HS.out ?_
      clear hK K
      refine wpOrs_f rfl (by go_simp) fun K hK => ?_
      go_simp
      refine hK _ _ HS.out ?_
      clear hK K
      refine wpOrs_f rfl (by go_simp) fun K hK => ?_
      go_simp
      refine hK _ _ HS.out ?_
      clear hK K
      refine wpOrs_f rfl (by go_simp) fun K hK => ?_
      go_simp
      refine hK _ _ HS.out ?_
      clear hK K
      refine wpOrs_f rfl (by go_simp) fun K hK => ?_
      go_simp
      refine hK _ _ HS.out ?_
      clear hK K
      refine wpOrs_t rfl (by go_simp) (fun _ _ => rfl) ?_
      simp only [Act.put, List.setIfInBounds_toArray, List.set_cons_zero, List.set_cons_succ]
      refine wpOrs_t rfl (by go_simp) (fun _ _ => rfl) ?_
      simp only [Act.put, List.setIfInBounds_toArray, List.set_cons_zero, List.set_cons_succ]
      refine wpOrs_g rfl (by go_simp) fun K hK => ?_
      go_simp
      refine (Number_walk _ m HM.out).mono ?_
      rintro e w8 ⟨a8, c8, rfl, hB8, hb⟩
      have HS : Hid (Below w.heap.size w w8 ∧ IsB w8 a8 (big m).length c8 (big m)) := Lib.hid ⟨bl HS.out hb, hB8⟩
      refine hK (fun y => Below w.heap.size w y ∧ IsB y a8 (big m).length c8 (big m)) _ _ (fun y h => h.1) HS.out ?_
      clear hK K hb hB8
      refine wpOrs_t rfl (by go_simp) (fun _ _ => rfl) ?_
      simp only [Act.put, List.setIfInBounds_toArray, List.set_cons_zero, List.set_cons_succ]
      refine wpOrs_str 22 9 (.tmp 50) (.slice a8 (big m).length c8) (.string (str (big m))) rfl (by go_simp) rfl rfl (fun y hy => conv_str hy.2) ?_
      simp only [Act.put, List.setIfInBounds_toArray, List.set_cons_zero, List.set_cons_succ]
      refine wpOrs_f rfl (by go_simp) fun K hK => ?_
      go_simp
      refine (big_walk _ m HM.out).mono ?_
      rintro e w9 ⟨V9, rfl, hO9, hb⟩
      obtain ⟨a9, c9, rfl, hB9⟩ := hO9.isB
      have hcv : (convert 22 9 (.slice a9 (big m).length c9)).run Tryd.prog w9 = .ok (.string (str (big m))) w9 := conv_str hB9
      have HS := Lib.hid (And.intro (bl HS.out.1 hb) (HS.out.2.keep (keep_below hb)))
      refine hK _ _ HS.out ?_
      clear hK K hb hO9 hB9
      refine wpOrs_f rfl (by go_simp) fun K hK => ?_
      go_simp
      refine hK _ _ HS.out ?_
      clear hK K
      refine wpOrs_f rfl (by go_simp) fun K hK => ?_
      go_simp
      refine hK _ _ HS.out ?_
      clear hK K
      refine wpOrs_f rfl (by go_simp) fun K hK => ?_
      go_simp
      refine hK _ _ HS.out ?_
      clear hK K
      refine wpOrs_f rfl (by go_simp) fun K hK => ?_
      go_simp
      refine hK _ _ HS.out ?_
      clear hK K
      refine wpOrs_t rfl (by go_simp) (fun _ _ => rfl) ?_
      simp only [Act.put, List.setIfInBounds_toArray, List.set_cons_zero, List.set_cons_succ]
      refine wpOrs_f rfl (by go_simp) fun K hK => ?_
      go_simp
      refine hK _ _ HS.out ?_
      clear hK K
      refine wpOrs_f rfl (by go_simp) fun K hK => ?_
      go_simp
      refine hK _ _ HS.out ?_
      clear hK K
      refine wpOrs_f rfl (by go_simp) fun K hK => ?_
      go_simp
      refine hK _ _ HS.out ?_
      clear hK K
      refine wpOrs_f rfl (by go_simp) fun K hK => ?_
      go_simp
      refine hK _ _ HS.out ?_
      clear hK K
      refine wpOrs_t rfl (by go_simp) (fun _ _ => rfl) ?_
      simp only [Act.put, List.setIfInBounds_toArray, List.set_cons_zero, List.set_cons_succ]
      refine wpOrs_f rfl (by go_simp) fun K hK => ?_
      go_simp
      refine hK _ _ HS.out ?_
      clear hK K
      refine wpOrs_f rfl (by go_simp) fun K hK => ?_
      go_simp
      refine hK _ _ HS.out ?_
      clear hK K
      refine wpOrs_f rfl (by go_simp) fun K hK => ?_
      go_simp
      refine hK _ _ HS.out ?_
      clear hK K
      refine wpOrs_f rfl (by go_simp) fun K hK => ?_
      go_simp
      refine hK _ _ HS.out ?_
      clear hK K
      refine wpOrs_done (NoPanic.normal ?_)
      go_wp2_with (fail)
      go_ret
      exact ⟨rfl, HS.out.1⟩
end Rl
end Go.Proofs.YthlmjcochpodgaaDoor
