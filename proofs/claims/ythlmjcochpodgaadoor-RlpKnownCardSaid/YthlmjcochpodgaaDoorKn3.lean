/-
  RlpKnown: the walk. Own work.
-/
import Derived.Test.YthlmjcochpodgaaDoorKn2
import Derived.Test.YthlmjcochpodgaaDoorOt
import Derived.Deep.WholeRow
import Derived.Test.YthlmjcochpodgaaDoorFx3
namespace Go.Proofs.YthlmjcochpodgaaDoor
open Go.ChangeShapes Go.WideShapes Go.Deep Go.RowKit
set_option linter.unusedVariables false
set_option linter.unusedSimpArgs false
namespace Rl
set_option maxHeartbeats 8000000 in
set_option maxRecDepth 100000 in
theorem rlpKnown_walk (w : World) (hg : w.cell? ⟨0, 0, none⟩ = some (.iface 103 (.agg #[.pointer (some ⟨1, 32, none⟩)]))) : Calls Tryd.prog 3 #[] w fun e w' => e = .returned (.bool true) ∧ Below w.heap.size w w' := by
  have HG := Lib.hid hg
  have hmk := mk56
  have HLG := Lib.hid (long_in w)
  obtain ⟨z56, hz⟩ : ∃ z, (List.replicate 56 (Value.int .u8 0)).toArray = z := ⟨_, rfl⟩
  rw [hz] at hmk HLG
  have hw6 : (⟨#[184, 56]⟩ : ByteArray) ++ str z8 = str (wrap false z8 Fo.nil.form) := by kernel_rfl
  have HCS := Lib.hid (fun (y : World) (h : IsB y (some ⟨w.heap.size, 0, none⟩) 56 56 z8) => conv_str h)
  have hsz : 2 + (str z8).size ≤ 9223372036854775807 := by rw [str_size]; decide
  obtain ⟨SZ, hSZ⟩ : ∃ s, str z8 = s := ⟨_, rfl⟩
  obtain ⟨W6, hW6⟩ : ∃ s, str (wrap false z8 Fo.nil.form) = s := ⟨_, rfl⟩
  rw [hSZ] at hw6 HCS hsz
  rw [hW6] at hw6
  have HW6 := Lib.hid hW6.symm
  clear hz hSZ hW6 hg
  go_enter Tryd.func3, Tryd.ntmps3
  go_upto_region 3 with (fail)
  have HL := Lib.hid (ba w (.cells z56 5))
  clear hmk
  generalize w.alloc (.cells z56 5) = y0 at *
  obtain ⟨qL, hqL⟩ : ∃ q, w.heap.size = q := ⟨_, rfl⟩
  rw [hqL] at HLG HCS
  simp only [hqL]
  have HQL := Lib.hid hqL
  clear hqL
  refine wp_region_og (fun y : World => IsB y (some ⟨qL, 0, none⟩) 56 56 z8) (.take 0 (.take 3 (.take 6 (.take 9 (.take 12 (.take 13 (.take 14 (.take 16 (.take 21 (.take 22 (.take 23 (.take 24 (.take 25 (.take 26 (.take 33 (.one 1 (.take 2 (.one 4 (.take 5 (.one 7 (.take 8 (.one 10 (.take 11 (.one 15 (.one 17 (.two 18 (.take 19 (.take 20 (.one 27 (.take 28 (.one 29 (.take 30 (.one 31 (.one 32 .done)))))))) 27 (.take 28 (.two 18 (.take 19 (.take 20 (.one 29 (.take 30 (.one 31 (.one 32 .done)))))) 29 (.take 30 (.one 18 (.take 19 (.take 20 (.one 31 (.one 32 .done)))))))))))))))))))))))))))))))))) (by kernel_rfl) (by kernel_rfl) (HLG.out.keep (keep_below (Below.refl _ _).drew)) ?_
  have HLG := Lib.hid (HLG.out.keep (keep_below (Below.refl _ _).drew))
  have HL := Lib.hid (bl HL.out (Below.refl _ _).drew)
  generalize World.drew _ = x0 at *
  refine og_tk (some 12) (.func (.func 11) #[] #[]) rfl rfl (by go_simp) (fun _ _ => by simp [execOp, go_sem]) ?_
  simp only [Act.put, List.setIfInBounds_toArray, List.set_cons_zero, List.set_cons_succ]
  refine og_tk (some 15) (.func (.func 11) #[] #[]) rfl rfl (by go_simp) (fun _ _ => by simp [execOp, go_sem]) ?_
  simp only [Act.put, List.setIfInBounds_toArray, List.set_cons_zero, List.set_cons_succ]
  refine og_tk (some 18) (.func (.func 11) #[] #[]) rfl rfl (by go_simp) (fun _ _ => by simp [execOp, go_sem]) ?_
  simp only [Act.put, List.setIfInBounds_toArray, List.set_cons_zero, List.set_cons_succ]
  refine og_tk (some 21) (.func (.func 11) #[] #[]) rfl rfl (by go_simp) (fun _ _ => by simp [execOp, go_sem]) ?_
  simp only [Act.put, List.setIfInBounds_toArray, List.set_cons_zero, List.set_cons_succ]
  refine og_tk (some 24) (.agg #[.bool true, .slice none 0 0, .slice none 0 0]) rfl rfl (by go_simp) (fun _ _ => by simp [execOp, go_sem]) ?_
  simp only [Act.put, List.setIfInBounds_toArray, List.set_cons_zero, List.set_cons_succ]
  refine og_tk (some 25) (.agg #[.bool true, .slice none 0 0, .slice none 0 0, .string ⟨#[192]⟩]) rfl rfl (by go_simp) (fun _ _ => by simp [execOp, go_sem]) ?_
  simp only [Act.put, List.setIfInBounds_toArray, List.set_cons_zero, List.set_cons_succ]
  refine og_tk (some 26) (.func (.func 11) #[] #[]) rfl rfl (by go_simp) (fun _ _ => by simp [execOp, go_sem]) ?_
  simp only [Act.put, List.setIfInBounds_toArray, List.set_cons_zero, List.set_cons_succ]
  refine og_tk (some 28) (.func (.func 11) #[] #[]) rfl rfl (by go_simp) (fun _ _ => by simp [execOp, go_sem]) ?_
  simp only [Act.put, List.setIfInBounds_toArray, List.set_cons_zero, List.set_cons_succ]
  refine og_tk (some 33) (.slice (some ⟨qL, 0, none⟩) 56 56) rfl rfl (by go_simp) (fun _ _ => by simp [execOp, go_sem]) ?_
  simp only [Act.put, List.setIfInBounds_toArray, List.set_cons_zero, List.set_cons_succ]
  refine og_tk (some 34) (.agg #[.bool false, .slice (some ⟨qL, 0, none⟩) 56 56, .slice none 0 0]) rfl rfl (by go_simp) (fun _ _ => by simp [execOp, go_sem]) ?_
  simp only [Act.put, List.setIfInBounds_toArray, List.set_cons_zero, List.set_cons_succ]
  refine og_tk (some 35) (.slice (some ⟨qL, 0, none⟩) 56 56) rfl rfl (by go_simp) (fun _ _ => by simp [execOp, go_sem]) ?_
  simp only [Act.put, List.setIfInBounds_toArray, List.set_cons_zero, List.set_cons_succ]
  refine og_str (some 36) 22 9 (.tmp 35) (.slice (some ⟨qL, 0, none⟩) 56 56) (.string SZ) rfl rfl (by go_simp) rfl rfl (fun y hy => HCS.out y hy) ?_
  simp only [Act.put, List.setIfInBounds_toArray, List.set_cons_zero, List.set_cons_succ]
  refine og_tk (some 37) (.string W6) rfl rfl (by go_simp) (fun _ _ => by simp [execOp, go_sem, hw6, hsz]) ?_
  simp only [Act.put, List.setIfInBounds_toArray, List.set_cons_zero, List.set_cons_succ]
  refine og_tk (some 38) (.agg #[.bool false, .slice (some ⟨qL, 0, none⟩) 56 56, .slice none 0 0, .string W6]) rfl rfl (by go_simp) (fun _ _ => by simp [execOp, go_sem]) ?_
  simp only [Act.put, List.setIfInBounds_toArray, List.set_cons_zero, List.set_cons_succ]
  refine og_tk (some 45) (.int .i64 0) rfl rfl (by go_simp) (fun _ _ => by simp [execOp, go_sem]) ?_
  simp only [Act.put, List.setIfInBounds_toArray, List.set_cons_zero, List.set_cons_succ]
  clear hw6 hsz
  refine og_f rfl (by go_simp) fun K hK => ?_
  have hc := Lib.hid (t100_111_103 x0)
  go_simp
  refine hc.out.mono ?_
  rintro r x1 ⟨A1, c1, rfl, hB, hb⟩
  have HLG := Lib.hid (HLG.out.keep (keep_below hb))
  have HL := Lib.hid (bl HL.out hb)
  have HB1 := Lib.hid hB
  refine hK _ _ HLG.out ?_
  try simp only [Act.put, List.setIfInBounds_toArray, List.set_cons_zero, List.set_cons_succ]
  clear hK K hB hb hc
  refine og_tk (some 14) (.agg #[.bool false, .slice A1 3 c1, .slice none 0 0, .string ⟨#[131, 100, 111, 103]⟩]) rfl rfl (by go_simp) (fun _ _ => by simp [execOp, go_sem]) ?_
  simp only [Act.put, List.setIfInBounds_toArray, List.set_cons_zero, List.set_cons_succ]
  refine og_f rfl (by go_simp) fun K hK => ?_
  have hc := Lib.hid (t x1)
  go_simp
  refine hc.out.mono ?_
  rintro r x2 ⟨A4, c4, rfl, hB, hb⟩
  have HB1 := Lib.hid (HB1.out.keep (keep_below hb))
  have HLG := Lib.hid (HLG.out.keep (keep_below hb))
  have HL := Lib.hid (bl HL.out hb)
  have HB4 := Lib.hid hB
  refine hK _ _ HLG.out ?_
  try simp only [Act.put, List.setIfInBounds_toArray, List.set_cons_zero, List.set_cons_succ]
  clear hK K hB hb hc
  refine og_tk (some 17) (.agg #[.bool false, .slice A4 0 c4, .slice none 0 0, .string ⟨#[128]⟩]) rfl rfl (by go_simp) (fun _ _ => by simp [execOp, go_sem]) ?_
  simp only [Act.put, List.setIfInBounds_toArray, List.set_cons_zero, List.set_cons_succ]
  refine og_f rfl (by go_simp) fun K hK => ?_
  have hc := Lib.hid (t15 x2)
  go_simp
  refine hc.out.mono ?_
  rintro r x3 ⟨A7, c7, rfl, hB, hb⟩
  have HB1 := Lib.hid (HB1.out.keep (keep_below hb))
  have HB4 := Lib.hid (HB4.out.keep (keep_below hb))
  have HLG := Lib.hid (HLG.out.keep (keep_below hb))
  have HL := Lib.hid (bl HL.out hb)
  have HB7 := Lib.hid hB
  refine hK _ _ HLG.out ?_
  try simp only [Act.put, List.setIfInBounds_toArray, List.set_cons_zero, List.set_cons_succ]
  clear hK K hB hb hc
  refine og_tk (some 20) (.agg #[.bool false, .slice A7 1 c7, .slice none 0 0, .string ⟨#[15]⟩]) rfl rfl (by go_simp) (fun _ _ => by simp [execOp, go_sem]) ?_
  simp only [Act.put, List.setIfInBounds_toArray, List.set_cons_zero, List.set_cons_succ]
  refine og_f rfl (by go_simp) fun K hK => ?_
  have hc := Lib.hid (t128 x3)
  go_simp
  refine hc.out.mono ?_
  rintro r x4 ⟨A10, c10, rfl, hB, hb⟩
  have HB1 := Lib.hid (HB1.out.keep (keep_below hb))
  have HB4 := Lib.hid (HB4.out.keep (keep_below hb))
  have HB7 := Lib.hid (HB7.out.keep (keep_below hb))
  have HLG := Lib.hid (HLG.out.keep (keep_below hb))
  have HL := Lib.hid (bl HL.out hb)
  have HB10 := Lib.hid hB
  refine hK _ _ HLG.out ?_
  try simp only [Act.put, List.setIfInBounds_toArray, List.set_cons_zero, List.set_cons_succ]
  clear hK K hB hb hc
  refine og_tk (some 23) (.agg #[.bool false, .slice A10 1 c10, .slice none 0 0, .string ⟨#[129, 128]⟩]) rfl rfl (by go_simp) (fun _ _ => by simp [execOp, go_sem]) ?_
  simp only [Act.put, List.setIfInBounds_toArray, List.set_cons_zero, List.set_cons_succ]
  refine og_f rfl (by go_simp) fun K hK => ?_
  have hc := Lib.hid (t99_97_116 x4)
  go_simp
  refine hc.out.mono ?_
  rintro r x5 ⟨A15, c15, rfl, hB, hb⟩
  have HB1 := Lib.hid (HB1.out.keep (keep_below hb))
  have HB4 := Lib.hid (HB4.out.keep (keep_below hb))
  have HB7 := Lib.hid (HB7.out.keep (keep_below hb))
  have HB10 := Lib.hid (HB10.out.keep (keep_below hb))
  have HLG := Lib.hid (HLG.out.keep (keep_below hb))
  have HL := Lib.hid (bl HL.out hb)
  have HB15 := Lib.hid hB
  refine hK _ _ HLG.out ?_
  try simp only [Act.put, List.setIfInBounds_toArray, List.set_cons_zero, List.set_cons_succ]
  clear hK K hB hb hc
  refine og_f rfl (by go_simp) fun K hK => ?_
  have hc := Lib.hid (t100_111_103 x5)
  go_simp
  refine hc.out.mono ?_
  rintro r x6 ⟨A17, c17, rfl, hB, hb⟩
  have HB1 := Lib.hid (HB1.out.keep (keep_below hb))
  have HB4 := Lib.hid (HB4.out.keep (keep_below hb))
  have HB7 := Lib.hid (HB7.out.keep (keep_below hb))
  have HB10 := Lib.hid (HB10.out.keep (keep_below hb))
  have HB15 := Lib.hid (HB15.out.keep (keep_below hb))
  have HLG := Lib.hid (HLG.out.keep (keep_below hb))
  have HL := Lib.hid (bl HL.out hb)
  have HB17 := Lib.hid hB
  refine hK _ _ HLG.out ?_
  try simp only [Act.put, List.setIfInBounds_toArray, List.set_cons_zero, List.set_cons_succ]
  clear hK K hB hb hc
  refine og_two ?_ ?_
  · skip
    refine og_of rfl (by go_simp) fun K hK => ?_
    go_simp
    have hb := ba x6 (.cells #[.bool false, .slice A15 3 c15, .slice none 0 0, .bool false, .slice A17 3 c17, .slice none 0 0] 25)
    have hq := kids2 x6 A15 A17 3 3 c15 c17 [99#8, 97#8, 116#8] [100#8, 111#8, 103#8] HB15.out HB17.out
    have HB1 := Lib.hid (HB1.out.keep (keep_below hb))
    have HB4 := Lib.hid (HB4.out.keep (keep_below hb))
    have HB7 := Lib.hid (HB7.out.keep (keep_below hb))
    have HB10 := Lib.hid (HB10.out.keep (keep_below hb))
    have HB15 := Lib.hid (HB15.out.keep (keep_below hb))
    have HB17 := Lib.hid (HB17.out.keep (keep_below hb))
    have HLG := Lib.hid (HLG.out.keep (keep_below hb))
    have HL := Lib.hid (bl HL.out hb)
    have HQ5 := Lib.hid hq
    refine hK _ _ HLG.out ?_
    try simp only [Act.put, List.setIfInBounds_toArray, List.set_cons_zero, List.set_cons_succ]
    clear hK K hb hq
    generalize x6.alloc (.cells #[.bool false, .slice A15 3 c15, .slice none 0 0, .bool false, .slice A17 3 c17, .slice none 0 0] 25) = x7 at *
    generalize x6.heap.size = q5 at *
    refine og_tk (some 31) (.agg #[.bool true, .slice none 0 0, .slice (some ⟨q5, 0, none⟩) 2 2]) rfl rfl (by go_simp) (fun _ _ => by simp [execOp, go_sem]) ?_
    simp only [Act.put, List.setIfInBounds_toArray, List.set_cons_zero, List.set_cons_succ]
    refine og_tk (some 32) (.agg #[.bool true, .slice none 0 0, .slice (some ⟨q5, 0, none⟩) 2 2, .string ⟨#[200, 131, 99, 97, 116, 131, 100, 111, 103]⟩]) rfl rfl (by go_simp) (fun _ _ => by simp [execOp, go_sem]) ?_
    simp only [Act.put, List.setIfInBounds_toArray, List.set_cons_zero, List.set_cons_succ]
    refine og_f rfl (by go_simp) fun K hK => ?_
    have hc := Lib.hid (num0 x7)
    go_simp
    refine hc.out.mono ?_
    rintro r x8 ⟨A27, c27, rfl, hB, hb⟩
    have HB1 := Lib.hid (HB1.out.keep (keep_below hb))
    have HB4 := Lib.hid (HB4.out.keep (keep_below hb))
    have HB7 := Lib.hid (HB7.out.keep (keep_below hb))
    have HB10 := Lib.hid (HB10.out.keep (keep_below hb))
    have HB15 := Lib.hid (HB15.out.keep (keep_below hb))
    have HB17 := Lib.hid (HB17.out.keep (keep_below hb))
    have HQ5 := Lib.hid (HQ5.out.keep (keep_below hb))
    have HLG := Lib.hid (HLG.out.keep (keep_below hb))
    have HL := Lib.hid (bl HL.out hb)
    have HB27 := Lib.hid hB
    refine hK _ _ HLG.out ?_
    try simp only [Act.put, List.setIfInBounds_toArray, List.set_cons_zero, List.set_cons_succ]
    clear hK K hB hb hc
    refine og_tk (some 40) (.agg #[.bool false, .slice A27 0 c27, .slice none 0 0, .string ⟨#[128]⟩]) rfl rfl (by go_simp) (fun _ _ => by simp [execOp, go_sem]) ?_
    simp only [Act.put, List.setIfInBounds_toArray, List.set_cons_zero, List.set_cons_succ]
    refine og_f rfl (by go_simp) fun K hK => ?_
    have hc := Lib.hid (num1024 x8)
    go_simp
    refine hc.out.mono ?_
    rintro r x9 ⟨A29, c29, rfl, hB, hb⟩
    have HB1 := Lib.hid (HB1.out.keep (keep_below hb))
    have HB4 := Lib.hid (HB4.out.keep (keep_below hb))
    have HB7 := Lib.hid (HB7.out.keep (keep_below hb))
    have HB10 := Lib.hid (HB10.out.keep (keep_below hb))
    have HB15 := Lib.hid (HB15.out.keep (keep_below hb))
    have HB17 := Lib.hid (HB17.out.keep (keep_below hb))
    have HB27 := Lib.hid (HB27.out.keep (keep_below hb))
    have HQ5 := Lib.hid (HQ5.out.keep (keep_below hb))
    have HLG := Lib.hid (HLG.out.keep (keep_below hb))
    have HL := Lib.hid (bl HL.out hb)
    have HB29 := Lib.hid hB
    refine hK _ _ HLG.out ?_
    try simp only [Act.put, List.setIfInBounds_toArray, List.set_cons_zero, List.set_cons_succ]
    clear hK K hB hb hc
    refine og_tk (some 42) (.agg #[.bool false, .slice A29 2 c29, .slice none 0 0, .string ⟨#[130, 4, 0]⟩]) rfl rfl (by go_simp) (fun _ _ => by simp [execOp, go_sem]) ?_
    simp only [Act.put, List.setIfInBounds_toArray, List.set_cons_zero, List.set_cons_succ]
    refine og_f rfl (by go_simp) fun K hK => ?_
    go_simp
    have h9 := nine x9 A1 A4 A7 A10 A27 A29 c1 c4 c7 c10 c27 c29 q5 qL HB1.out HB4.out HB7.out HB10.out HB27.out HB29.out HQ5.out HLG.out W6 HW6.out
    have HK9 := Lib.hid (And.intro (bl HL.out (ba x9 (.cells (nineC A1 A4 A7 A10 A27 A29 c1 c4 c7 c10 c27 c29 q5 qL W6) 27))) h9)
    have HLG := Lib.hid (HLG.out.keep (keep_below (ba x9 (.cells (nineC A1 A4 A7 A10 A27 A29 c1 c4 c7 c10 c27 c29 q5 qL W6) 27))))
    refine hK _ (x9.alloc (.cells (nineC A1 A4 A7 A10 A27 A29 c1 c4 c7 c10 c27 c29 q5 qL W6) 27)) HLG.out ?_
    try simp only [Act.put, List.setIfInBounds_toArray, List.set_cons_zero, List.set_cons_succ]
    clear hK K h9
    generalize x9.alloc (.cells (nineC A1 A4 A7 A10 A27 A29 c1 c4 c7 c10 c27 c29 q5 qL W6) 27) = x10 at *
    generalize x9.heap.size = qK at *
    refine og_f rfl (by go_simp) fun K hK => ?_
    go_simp
    refine hK _ _ HLG.out ?_
    try simp only [Act.put, List.setIfInBounds_toArray, List.set_cons_zero, List.set_cons_succ]
    clear hK K
    refine og_done (NoPanic.normal ?_)
    try clear HLG HL HQ5 HB1 HB4 HB7 HB10 HB15 HB17 HB27 HB29 HCS HW6
    go_wp2_with (fail)
    go_loopw [45] (fun i y => ∃ j : Nat, i = .int .i64 j ∧ Hid (j ≤ 9 ∧ Below w.heap.size w y ∧ ∀ i, i < 9 → KnI y qK (i * 4))) (fun i _ => 9 - (intOf i).toNat)
    case atStart => exact ⟨0, rfl, Lib.hid ⟨Nat.zero_le _, HK9.out.1, HK9.out.2⟩⟩
    case round =>
      obtain ⟨j, rfl, hp⟩ := hrel
      have HP := Lib.hid hp.out
      clear hp HK9
      by_cases hlt : (j : Int) < 9
      · obtain ⟨l, a, n, c, a', n', c', bs, k, k0, k1, k2, k3, hB, hK, he, hs⟩ := HP.out.2.2 j (by omega)
        obtain ⟨WB, hWB⟩ : ∃ s, str (wrap l bs k.form) = s := ⟨_, rfl⟩
        rw [hWB] at k3
        have HE : Hid (∀ y, Below wr.heap.size wr y → Calls Tryd.prog 13 #[.agg #[.bool l, .slice a n c, .slice a' n' c']] y fun e w' => ∃ A N C, e = .returned (.tuple #[.slice A N C, .nilIface]) ∧ (∀ u, Below w'.heap.size w' u → (convert 22 9 (.slice A N C)).run Tryd.prog u = .ok (.string WB) u) ∧ Below y.heap.size y w') := Lib.hid (fun y hb => by
          have h := encode_walk y l n c n' c' a a' bs k (hB.keep (keep_below hb)) (hK.keep (keep_below hb)) hs
          rw [he, if_pos rfl, if_pos rfl] at h
          refine h.mono ?_
          rintro e w' ⟨V, rfl, hO, hb2⟩
          obtain ⟨A, C, rfl, hB2⟩ := hO.isB
          exact ⟨A, _, C, rfl, fun u hu => by rw [conv_str (hB2.keep (keep_below hu)), hWB], hb2⟩)
        have HJ := Lib.hid (show j < 9 ∧ wrap64 ((j : Int) + 1) = ((j + 1 : Nat) : Int) by refine ⟨by omega, ?_⟩; unfold wrap64; omega)
        clear hB hK he hs hWB
        go_upto_region 6 with (refine wpList_store_row rfl 27 (.tmp 4) (.tmp 48) rfl wr.heap.size #[.bool l, .slice a n c, .slice a' n' c', .string WB] rfl rfl 27 _ (heap_alloc_last wr _) (by kernel_rfl) rfl rfl ?_)
        try rw [World.setRow_alloc_new]
        try simp only [Act.put]
        clear k0 k1 k2 k3
        have HY := Lib.hid (show Below w.heap.size w (wr.alloc (.cells #[.bool l, .slice a n c, .slice a' n' c', .string WB] 27)) ∧ Below wr.heap.size wr (wr.alloc (.cells #[.bool l, .slice a n c, .slice a' n' c', .string WB] 27)) from ⟨bl HP.out.2.1 (ba _ _), ba _ _⟩)
        have HKP : Hid (Keep wr (wr.alloc (.cells #[.bool l, .slice a n c, .slice a' n' c', .string WB] 27))) := Lib.hid (keep_below (ba _ _))
        have g0 : (wr.alloc (.cells #[.bool l, .slice a n c, .slice a' n' c', .string WB] 27)).cell? ⟨wr.heap.size, 0, none⟩ = some (.bool l) := by simp
        have g1 : (wr.alloc (.cells #[.bool l, .slice a n c, .slice a' n' c', .string WB] 27)).cell? ⟨wr.heap.size, 1, none⟩ = some (.slice a n c) := by simp
        have g2 : (wr.alloc (.cells #[.bool l, .slice a n c, .slice a' n' c', .string WB] 27)).cell? ⟨wr.heap.size, 2, none⟩ = some (.slice a' n' c') := by simp
        have g3 : (wr.alloc (.cells #[.bool l, .slice a n c, .slice a' n' c', .string WB] 27)).cell? ⟨wr.heap.size, 3, none⟩ = some (.string WB) := by simp
        generalize wr.alloc (.cells #[.bool l, .slice a n c, .slice a' n' c', .string WB] 27) = y2 at *
        have HEY := Lib.hid (HE.out y2 HY.out.2)
        clear HE
        generalize wr.heap.size = q4 at *
        go_upto_region 7 with (go_at_call 13; (with_reducible refine HEY.out.mono ?_); rintro e y3 ⟨A5, N5, C5, rfl, hcv, hb⟩; have HCV := Lib.hid (And.intro hcv (And.intro hb (keep1 hb g3))); clear hcv hb HEY)
        clear g0 g1 g2 g3
        have e1 := HCV.out.1 y3 (Below.refl _ _)
        have g3 := HCV.out.2.2
        go_wp2_with (fail)
        try rw [HJ.out.2]
        go_roundw
        case rel => exact ⟨j + 1, rfl, Lib.hid ⟨HJ.out.1, bl HY.out.1 HCV.out.2.1, fun i hi => ((HP.out.2.2 i hi).keep HKP.out).keep (keep_below HCV.out.2.1)⟩⟩
        case measure => have := HJ.out.1; show 9 - (j + 1) < 9 - j; omega
      · go_wp2_with (fail)
        have H7 := Lib.hid (And.intro (bl HP.out.2.1 (ba wr (.cells #[.string ⟨#[]⟩, .string ⟨#[129, 15]⟩, .string ⟨#[131, 100, 111]⟩, .string ⟨#[184, 1, 97]⟩, .string ⟨#[193]⟩, .string ⟨#[128, 128]⟩, .string ⟨#[248, 1, 128]⟩] 9))) (seven wr))
        generalize wr.alloc (.cells #[.string ⟨#[]⟩, .string ⟨#[129, 15]⟩, .string ⟨#[131, 100, 111]⟩, .string ⟨#[184, 1, 97]⟩, .string ⟨#[193]⟩, .string ⟨#[128, 128]⟩, .string ⟨#[248, 1, 128]⟩] 9) = y7 at *
        generalize wr.heap.size = qS at *
        clear HP
        go_loopw [67] (fun i y => ∃ j : Nat, i = .int .i64 j ∧ Hid (j ≤ 7 ∧ Below w.heap.size w y ∧ ∀ i, i < 7 → ∃ bs p k, y.cell? ⟨qS, i, none⟩ = some (.string (str bs)) ∧ bs.length ≤ maxLen ∧ dec bs = .bad p k)) (fun i _ => 7 - (intOf i).toNat)
        case atStart => exact ⟨0, rfl, Lib.hid ⟨Nat.zero_le _, H7.out.1, H7.out.2⟩⟩
        case round =>
          obtain ⟨j2, rfl, hp⟩ := hrel
          have HP := Lib.hid hp.out
          clear hp H7 hlt
          by_cases hlt : (j2 : Int) < 7
          · obtain ⟨bs, p, k, k0, hl, hd⟩ := HP.out.2.2 j2 (by omega)
            have HLN := Lib.hid hl
            have HD : Hid (∀ y A c, IsB y A bs.length c bs → Calls Tryd.prog 14 #[.slice A bs.length c] y fun e w' => ∃ q, e = .returned (.tuple #[.agg #[.bool false, .slice none 0 0, .slice none 0 0], .iface 65 (.pointer (some ⟨q, 0, none⟩))]) ∧ Below y.heap.size y w') := Lib.hid (fun y A c hB => by
              have h := decode_walk y A bs.length c bs hB
              rw [hd] at h
              refine h.mono ?_
              rintro e w' ⟨⟨v, rfl, q, rfl, _⟩, hb⟩
              exact ⟨q, rfl, hb⟩)
            have HJ := Lib.hid (show j2 < 7 ∧ wrap64 ((j2 : Int) + 1) = ((j2 + 1 : Nat) : Int) by refine ⟨by omega, ?_⟩; unfold wrap64; omega)
            clear hl hd
            go_upto_region 14 with (first
              | (refine wpList_cvB rfl (.tmp 72) rfl bs rfl HLN.out ?_; rintro c1 y1 hB hb; have HB1 := Lib.hid (And.intro hb hB); clear hB hb)
              | (go_at_call 14; (with_reducible refine (HD.out _ _ _ HB1.out.2).mono ?_); rintro e y2 ⟨q, rfl, hb⟩; have HB2 := Lib.hid (bl HB1.out.1 hb); clear hb)
              | (refine wpList_store_row rfl 25 (.tmp 9) (.tmp 75) rfl y2.heap.size #[.bool false, .slice none 0 0, .slice none 0 0] rfl rfl 25 _ (heap_alloc_last y2 _) (by kernel_rfl) rfl rfl ?_))
            try rw [World.setRow_alloc_new]
            try simp only [Act.put]
            have HB3 := Lib.hid (bl HB2.out (ba y2 (.cells #[.bool false, .slice none 0 0, .slice none 0 0] 25)))
            generalize y2.alloc (.cells #[.bool false, .slice none 0 0, .slice none 0 0] 25) = y3 at *
            clear k0
            go_wp2_with (fail)
            try rw [HJ.out.2]
            go_roundw
            case rel => exact ⟨j2 + 1, rfl, Lib.hid ⟨HJ.out.1, bl HP.out.2.1 HB3.out, fun i hi => by
              obtain ⟨bs, p, k, h0, h1⟩ := HP.out.2.2 i hi
              exact ⟨bs, p, k, keep1 HB3.out h0, h1⟩⟩⟩
            case measure => have := HJ.out.1; show 7 - (j2 + 1) < 7 - j2; omega
          · have HFX := Lib.hid (fixed_walk wr (keep_below HP.out.2.1 _ _ HG.out))
            go_wp2_with (go_at_call 15; (with_reducible refine HFX.out.mono ?_); rintro e y9 ⟨rfl, hb⟩; have H9 := Lib.hid (bl HP.out.2.1 hb); clear hb)
            go_ret
            exact ⟨rfl, H9.out⟩
  · skip
    refine og_of rfl (by go_simp) fun K hK => ?_
    have hc := Lib.hid (num0 x6)
    go_simp
    refine hc.out.mono ?_
    rintro r x12 ⟨A27, c27, rfl, hB, hb⟩
    have HB1 := Lib.hid (HB1.out.keep (keep_below hb))
    have HB4 := Lib.hid (HB4.out.keep (keep_below hb))
    have HB7 := Lib.hid (HB7.out.keep (keep_below hb))
    have HB10 := Lib.hid (HB10.out.keep (keep_below hb))
    have HB15 := Lib.hid (HB15.out.keep (keep_below hb))
    have HB17 := Lib.hid (HB17.out.keep (keep_below hb))
    have HLG := Lib.hid (HLG.out.keep (keep_below hb))
    have HL := Lib.hid (bl HL.out hb)
    have HB27 := Lib.hid hB
    refine hK _ _ HLG.out ?_
    try simp only [Act.put, List.setIfInBounds_toArray, List.set_cons_zero, List.set_cons_succ]
    clear hK K hB hb hc
    refine og_tk (some 40) (.agg #[.bool false, .slice A27 0 c27, .slice none 0 0, .string ⟨#[128]⟩]) rfl rfl (by go_simp) (fun _ _ => by simp [execOp, go_sem]) ?_
    simp only [Act.put, List.setIfInBounds_toArray, List.set_cons_zero, List.set_cons_succ]
    refine og_two ?_ ?_
    · skip
      refine og_of rfl (by go_simp) fun K hK => ?_
      go_simp
      have hb := ba x12 (.cells #[.bool false, .slice A15 3 c15, .slice none 0 0, .bool false, .slice A17 3 c17, .slice none 0 0] 25)
      have hq := kids2 x12 A15 A17 3 3 c15 c17 [99#8, 97#8, 116#8] [100#8, 111#8, 103#8] HB15.out HB17.out
      have HB1 := Lib.hid (HB1.out.keep (keep_below hb))
      have HB4 := Lib.hid (HB4.out.keep (keep_below hb))
      have HB7 := Lib.hid (HB7.out.keep (keep_below hb))
      have HB10 := Lib.hid (HB10.out.keep (keep_below hb))
      have HB15 := Lib.hid (HB15.out.keep (keep_below hb))
      have HB17 := Lib.hid (HB17.out.keep (keep_below hb))
      have HB27 := Lib.hid (HB27.out.keep (keep_below hb))
      have HLG := Lib.hid (HLG.out.keep (keep_below hb))
      have HL := Lib.hid (bl HL.out hb)
      have HQ5 := Lib.hid hq
      refine hK _ _ HLG.out ?_
      try simp only [Act.put, List.setIfInBounds_toArray, List.set_cons_zero, List.set_cons_succ]
      clear hK K hb hq
      generalize x12.alloc (.cells #[.bool false, .slice A15 3 c15, .slice none 0 0, .bool false, .slice A17 3 c17, .slice none 0 0] 25) = x13 at *
      generalize x12.heap.size = q5 at *
      refine og_tk (some 31) (.agg #[.bool true, .slice none 0 0, .slice (some ⟨q5, 0, none⟩) 2 2]) rfl rfl (by go_simp) (fun _ _ => by simp [execOp, go_sem]) ?_
      simp only [Act.put, List.setIfInBounds_toArray, List.set_cons_zero, List.set_cons_succ]
      refine og_tk (some 32) (.agg #[.bool true, .slice none 0 0, .slice (some ⟨q5, 0, none⟩) 2 2, .string ⟨#[200, 131, 99, 97, 116, 131, 100, 111, 103]⟩]) rfl rfl (by go_simp) (fun _ _ => by simp [execOp, go_sem]) ?_
      simp only [Act.put, List.setIfInBounds_toArray, List.set_cons_zero, List.set_cons_succ]
      refine og_f rfl (by go_simp) fun K hK => ?_
      have hc := Lib.hid (num1024 x13)
      go_simp
      refine hc.out.mono ?_
      rintro r x14 ⟨A29, c29, rfl, hB, hb⟩
      have HB1 := Lib.hid (HB1.out.keep (keep_below hb))
      have HB4 := Lib.hid (HB4.out.keep (keep_below hb))
      have HB7 := Lib.hid (HB7.out.keep (keep_below hb))
      have HB10 := Lib.hid (HB10.out.keep (keep_below hb))
      have HB15 := Lib.hid (HB15.out.keep (keep_below hb))
      have HB17 := Lib.hid (HB17.out.keep (keep_below hb))
      have HB27 := Lib.hid (HB27.out.keep (keep_below hb))
      have HQ5 := Lib.hid (HQ5.out.keep (keep_below hb))
      have HLG := Lib.hid (HLG.out.keep (keep_below hb))
      have HL := Lib.hid (bl HL.out hb)
      have HB29 := Lib.hid hB
      refine hK _ _ HLG.out ?_
      try simp only [Act.put, List.setIfInBounds_toArray, List.set_cons_zero, List.set_cons_succ]
      clear hK K hB hb hc
      refine og_tk (some 42) (.agg #[.bool false, .slice A29 2 c29, .slice none 0 0, .string ⟨#[130, 4, 0]⟩]) rfl rfl (by go_simp) (fun _ _ => by simp [execOp, go_sem]) ?_
      simp only [Act.put, List.setIfInBounds_toArray, List.set_cons_zero, List.set_cons_succ]
      refine og_f rfl (by go_simp) fun K hK => ?_
      go_simp
      have h9 := nine x14 A1 A4 A7 A10 A27 A29 c1 c4 c7 c10 c27 c29 q5 qL HB1.out HB4.out HB7.out HB10.out HB27.out HB29.out HQ5.out HLG.out W6 HW6.out
      have HK9 := Lib.hid (And.intro (bl HL.out (ba x14 (.cells (nineC A1 A4 A7 A10 A27 A29 c1 c4 c7 c10 c27 c29 q5 qL W6) 27))) h9)
      have HLG := Lib.hid (HLG.out.keep (keep_below (ba x14 (.cells (nineC A1 A4 A7 A10 A27 A29 c1 c4 c7 c10 c27 c29 q5 qL W6) 27))))
      refine hK _ (x14.alloc (.cells (nineC A1 A4 A7 A10 A27 A29 c1 c4 c7 c10 c27 c29 q5 qL W6) 27)) HLG.out ?_
      try simp only [Act.put, List.setIfInBounds_toArray, List.set_cons_zero, List.set_cons_succ]
      clear hK K h9
      generalize x14.alloc (.cells (nineC A1 A4 A7 A10 A27 A29 c1 c4 c7 c10 c27 c29 q5 qL W6) 27) = x15 at *
      generalize x14.heap.size = qK at *
      refine og_f rfl (by go_simp) fun K hK => ?_
      go_simp
      refine hK _ _ HLG.out ?_
      try simp only [Act.put, List.setIfInBounds_toArray, List.set_cons_zero, List.set_cons_succ]
      clear hK K
      refine og_done (NoPanic.normal ?_)
      try clear HLG HL HQ5 HB1 HB4 HB7 HB10 HB15 HB17 HB27 HB29 HCS HW6
      go_wp2_with (fail)
      go_loopw [45] (fun i y => ∃ j : Nat, i = .int .i64 j ∧ Hid (j ≤ 9 ∧ Below w.heap.size w y ∧ ∀ i, i < 9 → KnI y qK (i * 4))) (fun i _ => 9 - (intOf i).toNat)
      case atStart => exact ⟨0, rfl, Lib.hid ⟨Nat.zero_le _, HK9.out.1, HK9.out.2⟩⟩
      case round =>
        obtain ⟨j, rfl, hp⟩ := hrel
        have HP := Lib.hid hp.out
        clear hp HK9
        by_cases hlt : (j : Int) < 9
        · obtain ⟨l, a, n, c, a', n', c', bs, k, k0, k1, k2, k3, hB, hK, he, hs⟩ := HP.out.2.2 j (by omega)
          obtain ⟨WB, hWB⟩ : ∃ s, str (wrap l bs k.form) = s := ⟨_, rfl⟩
          rw [hWB] at k3
          have HE : Hid (∀ y, Below wr.heap.size wr y → Calls Tryd.prog 13 #[.agg #[.bool l, .slice a n c, .slice a' n' c']] y fun e w' => ∃ A N C, e = .returned (.tuple #[.slice A N C, .nilIface]) ∧ (∀ u, Below w'.heap.size w' u → (convert 22 9 (.slice A N C)).run Tryd.prog u = .ok (.string WB) u) ∧ Below y.heap.size y w') := Lib.hid (fun y hb => by
            have h := encode_walk y l n c n' c' a a' bs k (hB.keep (keep_below hb)) (hK.keep (keep_below hb)) hs
            rw [he, if_pos rfl, if_pos rfl] at h
            refine h.mono ?_
            rintro e w' ⟨V, rfl, hO, hb2⟩
            obtain ⟨A, C, rfl, hB2⟩ := hO.isB
            exact ⟨A, _, C, rfl, fun u hu => by rw [conv_str (hB2.keep (keep_below hu)), hWB], hb2⟩)
          have HJ := Lib.hid (show j < 9 ∧ wrap64 ((j : Int) + 1) = ((j + 1 : Nat) : Int) by refine ⟨by omega, ?_⟩; unfold wrap64; omega)
          clear hB hK he hs hWB
          go_upto_region 6 with (refine wpList_store_row rfl 27 (.tmp 4) (.tmp 48) rfl wr.heap.size #[.bool l, .slice a n c, .slice a' n' c', .string WB] rfl rfl 27 _ (heap_alloc_last wr _) (by kernel_rfl) rfl rfl ?_)
          try rw [World.setRow_alloc_new]
          try simp only [Act.put]
          clear k0 k1 k2 k3
          have HY := Lib.hid (show Below w.heap.size w (wr.alloc (.cells #[.bool l, .slice a n c, .slice a' n' c', .string WB] 27)) ∧ Below wr.heap.size wr (wr.alloc (.cells #[.bool l, .slice a n c, .slice a' n' c', .string WB] 27)) from ⟨bl HP.out.2.1 (ba _ _), ba _ _⟩)
          have HKP : Hid (Keep wr (wr.alloc (.cells #[.bool l, .slice a n c, .slice a' n' c', .string WB] 27))) := Lib.hid (keep_below (ba _ _))
          have g0 : (wr.alloc (.cells #[.bool l, .slice a n c, .slice a' n' c', .string WB] 27)).cell? ⟨wr.heap.size, 0, none⟩ = some (.bool l) := by simp
          have g1 : (wr.alloc (.cells #[.bool l, .slice a n c, .slice a' n' c', .string WB] 27)).cell? ⟨wr.heap.size, 1, none⟩ = some (.slice a n c) := by simp
          have g2 : (wr.alloc (.cells #[.bool l, .slice a n c, .slice a' n' c', .string WB] 27)).cell? ⟨wr.heap.size, 2, none⟩ = some (.slice a' n' c') := by simp
          have g3 : (wr.alloc (.cells #[.bool l, .slice a n c, .slice a' n' c', .string WB] 27)).cell? ⟨wr.heap.size, 3, none⟩ = some (.string WB) := by simp
          generalize wr.alloc (.cells #[.bool l, .slice a n c, .slice a' n' c', .string WB] 27) = y2 at *
          have HEY := Lib.hid (HE.out y2 HY.out.2)
          clear HE
          generalize wr.heap.size = q4 at *
          go_upto_region 7 with (go_at_call 13; (with_reducible refine HEY.out.mono ?_); rintro e y3 ⟨A5, N5, C5, rfl, hcv, hb⟩; have HCV := Lib.hid (And.intro hcv (And.intro hb (keep1 hb g3))); clear hcv hb HEY)
          clear g0 g1 g2 g3
          have e1 := HCV.out.1 y3 (Below.refl _ _)
          have g3 := HCV.out.2.2
          go_wp2_with (fail)
          try rw [HJ.out.2]
          go_roundw
          case rel => exact ⟨j + 1, rfl, Lib.hid ⟨HJ.out.1, bl HY.out.1 HCV.out.2.1, fun i hi => ((HP.out.2.2 i hi).keep HKP.out).keep (keep_below HCV.out.2.1)⟩⟩
          case measure => have := HJ.out.1; show 9 - (j + 1) < 9 - j; omega
        · go_wp2_with (fail)
          have H7 := Lib.hid (And.intro (bl HP.out.2.1 (ba wr (.cells #[.string ⟨#[]⟩, .string ⟨#[129, 15]⟩, .string ⟨#[131, 100, 111]⟩, .string ⟨#[184, 1, 97]⟩, .string ⟨#[193]⟩, .string ⟨#[128, 128]⟩, .string ⟨#[248, 1, 128]⟩] 9))) (seven wr))
          generalize wr.alloc (.cells #[.string ⟨#[]⟩, .string ⟨#[129, 15]⟩, .string ⟨#[131, 100, 111]⟩, .string ⟨#[184, 1, 97]⟩, .string ⟨#[193]⟩, .string ⟨#[128, 128]⟩, .string ⟨#[248, 1, 128]⟩] 9) = y7 at *
          generalize wr.heap.size = qS at *
          clear HP
          go_loopw [67] (fun i y => ∃ j : Nat, i = .int .i64 j ∧ Hid (j ≤ 7 ∧ Below w.heap.size w y ∧ ∀ i, i < 7 → ∃ bs p k, y.cell? ⟨qS, i, none⟩ = some (.string (str bs)) ∧ bs.length ≤ maxLen ∧ dec bs = .bad p k)) (fun i _ => 7 - (intOf i).toNat)
          case atStart => exact ⟨0, rfl, Lib.hid ⟨Nat.zero_le _, H7.out.1, H7.out.2⟩⟩
          case round =>
            obtain ⟨j2, rfl, hp⟩ := hrel
            have HP := Lib.hid hp.out
            clear hp H7 hlt
            by_cases hlt : (j2 : Int) < 7
            · obtain ⟨bs, p, k, k0, hl, hd⟩ := HP.out.2.2 j2 (by omega)
              have HLN := Lib.hid hl
              have HD : Hid (∀ y A c, IsB y A bs.length c bs → Calls Tryd.prog 14 #[.slice A bs.length c] y fun e w' => ∃ q, e = .returned (.tuple #[.agg #[.bool false, .slice none 0 0, .slice none 0 0], .iface 65 (.pointer (some ⟨q, 0, none⟩))]) ∧ Below y.heap.size y w') := Lib.hid (fun y A c hB => by
                have h := decode_walk y A bs.length c bs hB
                rw [hd] at h
                refine h.mono ?_
                rintro e w' ⟨⟨v, rfl, q, rfl, _⟩, hb⟩
                exact ⟨q, rfl, hb⟩)
              have HJ := Lib.hid (show j2 < 7 ∧ wrap64 ((j2 : Int) + 1) = ((j2 + 1 : Nat) : Int) by refine ⟨by omega, ?_⟩; unfold wrap64; omega)
              clear hl hd
              go_upto_region 14 with (first
                | (refine wpList_cvB rfl (.tmp 72) rfl bs rfl HLN.out ?_; rintro c1 y1 hB hb; have HB1 := Lib.hid (And.intro hb hB); clear hB hb)
                | (go_at_call 14; (with_reducible refine (HD.out _ _ _ HB1.out.2).mono ?_); rintro e y2 ⟨q, rfl, hb⟩; have HB2 := Lib.hid (bl HB1.out.1 hb); clear hb)
                | (refine wpList_store_row rfl 25 (.tmp 9) (.tmp 75) rfl y2.heap.size #[.bool false, .slice none 0 0, .slice none 0 0] rfl rfl 25 _ (heap_alloc_last y2 _) (by kernel_rfl) rfl rfl ?_))
              try rw [World.setRow_alloc_new]
              try simp only [Act.put]
              have HB3 := Lib.hid (bl HB2.out (ba y2 (.cells #[.bool false, .slice none 0 0, .slice none 0 0] 25)))
              generalize y2.alloc (.cells #[.bool false, .slice none 0 0, .slice none 0 0] 25) = y3 at *
              clear k0
              go_wp2_with (fail)
              try rw [HJ.out.2]
              go_roundw
              case rel => exact ⟨j2 + 1, rfl, Lib.hid ⟨HJ.out.1, bl HP.out.2.1 HB3.out, fun i hi => by
                obtain ⟨bs, p, k, h0, h1⟩ := HP.out.2.2 i hi
                exact ⟨bs, p, k, keep1 HB3.out h0, h1⟩⟩⟩
              case measure => have := HJ.out.1; show 7 - (j2 + 1) < 7 - j2; omega
            · have HFX := Lib.hid (fixed_walk wr (keep_below HP.out.2.1 _ _ HG.out))
              go_wp2_with (go_at_call 15; (with_reducible refine HFX.out.mono ?_); rintro e y9 ⟨rfl, hb⟩; have H9 := Lib.hid (bl HP.out.2.1 hb); clear hb)
              go_ret
              exact ⟨rfl, H9.out⟩
    · skip
      refine og_of rfl (by go_simp) fun K hK => ?_
      have hc := Lib.hid (num1024 x12)
      go_simp
      refine hc.out.mono ?_
      rintro r x17 ⟨A29, c29, rfl, hB, hb⟩
      have HB1 := Lib.hid (HB1.out.keep (keep_below hb))
      have HB4 := Lib.hid (HB4.out.keep (keep_below hb))
      have HB7 := Lib.hid (HB7.out.keep (keep_below hb))
      have HB10 := Lib.hid (HB10.out.keep (keep_below hb))
      have HB15 := Lib.hid (HB15.out.keep (keep_below hb))
      have HB17 := Lib.hid (HB17.out.keep (keep_below hb))
      have HB27 := Lib.hid (HB27.out.keep (keep_below hb))
      have HLG := Lib.hid (HLG.out.keep (keep_below hb))
      have HL := Lib.hid (bl HL.out hb)
      have HB29 := Lib.hid hB
      refine hK _ _ HLG.out ?_
      try simp only [Act.put, List.setIfInBounds_toArray, List.set_cons_zero, List.set_cons_succ]
      clear hK K hB hb hc
      refine og_tk (some 42) (.agg #[.bool false, .slice A29 2 c29, .slice none 0 0, .string ⟨#[130, 4, 0]⟩]) rfl rfl (by go_simp) (fun _ _ => by simp [execOp, go_sem]) ?_
      simp only [Act.put, List.setIfInBounds_toArray, List.set_cons_zero, List.set_cons_succ]
      refine og_f rfl (by go_simp) fun K hK => ?_
      go_simp
      have hb := ba x17 (.cells #[.bool false, .slice A15 3 c15, .slice none 0 0, .bool false, .slice A17 3 c17, .slice none 0 0] 25)
      have hq := kids2 x17 A15 A17 3 3 c15 c17 [99#8, 97#8, 116#8] [100#8, 111#8, 103#8] HB15.out HB17.out
      have HB1 := Lib.hid (HB1.out.keep (keep_below hb))
      have HB4 := Lib.hid (HB4.out.keep (keep_below hb))
      have HB7 := Lib.hid (HB7.out.keep (keep_below hb))
      have HB10 := Lib.hid (HB10.out.keep (keep_below hb))
      have HB15 := Lib.hid (HB15.out.keep (keep_below hb))
      have HB17 := Lib.hid (HB17.out.keep (keep_below hb))
      have HB27 := Lib.hid (HB27.out.keep (keep_below hb))
      have HB29 := Lib.hid (HB29.out.keep (keep_below hb))
      have HLG := Lib.hid (HLG.out.keep (keep_below hb))
      have HL := Lib.hid (bl HL.out hb)
      have HQ5 := Lib.hid hq
      refine hK _ _ HLG.out ?_
      try simp only [Act.put, List.setIfInBounds_toArray, List.set_cons_zero, List.set_cons_succ]
      clear hK K hb hq
      generalize x17.alloc (.cells #[.bool false, .slice A15 3 c15, .slice none 0 0, .bool false, .slice A17 3 c17, .slice none 0 0] 25) = x18 at *
      generalize x17.heap.size = q5 at *
      refine og_tk (some 31) (.agg #[.bool true, .slice none 0 0, .slice (some ⟨q5, 0, none⟩) 2 2]) rfl rfl (by go_simp) (fun _ _ => by simp [execOp, go_sem]) ?_
      simp only [Act.put, List.setIfInBounds_toArray, List.set_cons_zero, List.set_cons_succ]
      refine og_tk (some 32) (.agg #[.bool true, .slice none 0 0, .slice (some ⟨q5, 0, none⟩) 2 2, .string ⟨#[200, 131, 99, 97, 116, 131, 100, 111, 103]⟩]) rfl rfl (by go_simp) (fun _ _ => by simp [execOp, go_sem]) ?_
      simp only [Act.put, List.setIfInBounds_toArray, List.set_cons_zero, List.set_cons_succ]
      refine og_f rfl (by go_simp) fun K hK => ?_
      go_simp
      have h9 := nine x18 A1 A4 A7 A10 A27 A29 c1 c4 c7 c10 c27 c29 q5 qL HB1.out HB4.out HB7.out HB10.out HB27.out HB29.out HQ5.out HLG.out W6 HW6.out
      have HK9 := Lib.hid (And.intro (bl HL.out (ba x18 (.cells (nineC A1 A4 A7 A10 A27 A29 c1 c4 c7 c10 c27 c29 q5 qL W6) 27))) h9)
      have HLG := Lib.hid (HLG.out.keep (keep_below (ba x18 (.cells (nineC A1 A4 A7 A10 A27 A29 c1 c4 c7 c10 c27 c29 q5 qL W6) 27))))
      refine hK _ (x18.alloc (.cells (nineC A1 A4 A7 A10 A27 A29 c1 c4 c7 c10 c27 c29 q5 qL W6) 27)) HLG.out ?_
      try simp only [Act.put, List.setIfInBounds_toArray, List.set_cons_zero, List.set_cons_succ]
      clear hK K h9
      generalize x18.alloc (.cells (nineC A1 A4 A7 A10 A27 A29 c1 c4 c7 c10 c27 c29 q5 qL W6) 27) = x19 at *
      generalize x18.heap.size = qK at *
      refine og_f rfl (by go_simp) fun K hK => ?_
      go_simp
      refine hK _ _ HLG.out ?_
      try simp only [Act.put, List.setIfInBounds_toArray, List.set_cons_zero, List.set_cons_succ]
      clear hK K
      refine og_done (NoPanic.normal ?_)
      try clear HLG HL HQ5 HB1 HB4 HB7 HB10 HB15 HB17 HB27 HB29 HCS HW6
      go_wp2_with (fail)
      go_loopw [45] (fun i y => ∃ j : Nat, i = .int .i64 j ∧ Hid (j ≤ 9 ∧ Below w.heap.size w y ∧ ∀ i, i < 9 → KnI y qK (i * 4))) (fun i _ => 9 - (intOf i).toNat)
      case atStart => exact ⟨0, rfl, Lib.hid ⟨Nat.zero_le _, HK9.out.1, HK9.out.2⟩⟩
      case round =>
        obtain ⟨j, rfl, hp⟩ := hrel
        have HP := Lib.hid hp.out
        clear hp HK9
        by_cases hlt : (j : Int) < 9
        · obtain ⟨l, a, n, c, a', n', c', bs, k, k0, k1, k2, k3, hB, hK, he, hs⟩ := HP.out.2.2 j (by omega)
          obtain ⟨WB, hWB⟩ : ∃ s, str (wrap l bs k.form) = s := ⟨_, rfl⟩
          rw [hWB] at k3
          have HE : Hid (∀ y, Below wr.heap.size wr y → Calls Tryd.prog 13 #[.agg #[.bool l, .slice a n c, .slice a' n' c']] y fun e w' => ∃ A N C, e = .returned (.tuple #[.slice A N C, .nilIface]) ∧ (∀ u, Below w'.heap.size w' u → (convert 22 9 (.slice A N C)).run Tryd.prog u = .ok (.string WB) u) ∧ Below y.heap.size y w') := Lib.hid (fun y hb => by
            have h := encode_walk y l n c n' c' a a' bs k (hB.keep (keep_below hb)) (hK.keep (keep_below hb)) hs
            rw [he, if_pos rfl, if_pos rfl] at h
            refine h.mono ?_
            rintro e w' ⟨V, rfl, hO, hb2⟩
            obtain ⟨A, C, rfl, hB2⟩ := hO.isB
            exact ⟨A, _, C, rfl, fun u hu => by rw [conv_str (hB2.keep (keep_below hu)), hWB], hb2⟩)
          have HJ := Lib.hid (show j < 9 ∧ wrap64 ((j : Int) + 1) = ((j + 1 : Nat) : Int) by refine ⟨by omega, ?_⟩; unfold wrap64; omega)
          clear hB hK he hs hWB
          go_upto_region 6 with (refine wpList_store_row rfl 27 (.tmp 4) (.tmp 48) rfl wr.heap.size #[.bool l, .slice a n c, .slice a' n' c', .string WB] rfl rfl 27 _ (heap_alloc_last wr _) (by kernel_rfl) rfl rfl ?_)
          try rw [World.setRow_alloc_new]
          try simp only [Act.put]
          clear k0 k1 k2 k3
          have HY := Lib.hid (show Below w.heap.size w (wr.alloc (.cells #[.bool l, .slice a n c, .slice a' n' c', .string WB] 27)) ∧ Below wr.heap.size wr (wr.alloc (.cells #[.bool l, .slice a n c, .slice a' n' c', .string WB] 27)) from ⟨bl HP.out.2.1 (ba _ _), ba _ _⟩)
          have HKP : Hid (Keep wr (wr.alloc (.cells #[.bool l, .slice a n c, .slice a' n' c', .string WB] 27))) := Lib.hid (keep_below (ba _ _))
          have g0 : (wr.alloc (.cells #[.bool l, .slice a n c, .slice a' n' c', .string WB] 27)).cell? ⟨wr.heap.size, 0, none⟩ = some (.bool l) := by simp
          have g1 : (wr.alloc (.cells #[.bool l, .slice a n c, .slice a' n' c', .string WB] 27)).cell? ⟨wr.heap.size, 1, none⟩ = some (.slice a n c) := by simp
          have g2 : (wr.alloc (.cells #[.bool l, .slice a n c, .slice a' n' c', .string WB] 27)).cell? ⟨wr.heap.size, 2, none⟩ = some (.slice a' n' c') := by simp
          have g3 : (wr.alloc (.cells #[.bool l, .slice a n c, .slice a' n' c', .string WB] 27)).cell? ⟨wr.heap.size, 3, none⟩ = some (.string WB) := by simp
          generalize wr.alloc (.cells #[.bool l, .slice a n c, .slice a' n' c', .string WB] 27) = y2 at *
          have HEY := Lib.hid (HE.out y2 HY.out.2)
          clear HE
          generalize wr.heap.size = q4 at *
          go_upto_region 7 with (go_at_call 13; (with_reducible refine HEY.out.mono ?_); rintro e y3 ⟨A5, N5, C5, rfl, hcv, hb⟩; have HCV := Lib.hid (And.intro hcv (And.intro hb (keep1 hb g3))); clear hcv hb HEY)
          clear g0 g1 g2 g3
          have e1 := HCV.out.1 y3 (Below.refl _ _)
          have g3 := HCV.out.2.2
          go_wp2_with (fail)
          try rw [HJ.out.2]
          go_roundw
          case rel => exact ⟨j + 1, rfl, Lib.hid ⟨HJ.out.1, bl HY.out.1 HCV.out.2.1, fun i hi => ((HP.out.2.2 i hi).keep HKP.out).keep (keep_below HCV.out.2.1)⟩⟩
          case measure => have := HJ.out.1; show 9 - (j + 1) < 9 - j; omega
        · go_wp2_with (fail)
          have H7 := Lib.hid (And.intro (bl HP.out.2.1 (ba wr (.cells #[.string ⟨#[]⟩, .string ⟨#[129, 15]⟩, .string ⟨#[131, 100, 111]⟩, .string ⟨#[184, 1, 97]⟩, .string ⟨#[193]⟩, .string ⟨#[128, 128]⟩, .string ⟨#[248, 1, 128]⟩] 9))) (seven wr))
          generalize wr.alloc (.cells #[.string ⟨#[]⟩, .string ⟨#[129, 15]⟩, .string ⟨#[131, 100, 111]⟩, .string ⟨#[184, 1, 97]⟩, .string ⟨#[193]⟩, .string ⟨#[128, 128]⟩, .string ⟨#[248, 1, 128]⟩] 9) = y7 at *
          generalize wr.heap.size = qS at *
          clear HP
          go_loopw [67] (fun i y => ∃ j : Nat, i = .int .i64 j ∧ Hid (j ≤ 7 ∧ Below w.heap.size w y ∧ ∀ i, i < 7 → ∃ bs p k, y.cell? ⟨qS, i, none⟩ = some (.string (str bs)) ∧ bs.length ≤ maxLen ∧ dec bs = .bad p k)) (fun i _ => 7 - (intOf i).toNat)
          case atStart => exact ⟨0, rfl, Lib.hid ⟨Nat.zero_le _, H7.out.1, H7.out.2⟩⟩
          case round =>
            obtain ⟨j2, rfl, hp⟩ := hrel
            have HP := Lib.hid hp.out
            clear hp H7 hlt
            by_cases hlt : (j2 : Int) < 7
            · obtain ⟨bs, p, k, k0, hl, hd⟩ := HP.out.2.2 j2 (by omega)
              have HLN := Lib.hid hl
              have HD : Hid (∀ y A c, IsB y A bs.length c bs → Calls Tryd.prog 14 #[.slice A bs.length c] y fun e w' => ∃ q, e = .returned (.tuple #[.agg #[.bool false, .slice none 0 0, .slice none 0 0], .iface 65 (.pointer (some ⟨q, 0, none⟩))]) ∧ Below y.heap.size y w') := Lib.hid (fun y A c hB => by
                have h := decode_walk y A bs.length c bs hB
                rw [hd] at h
                refine h.mono ?_
                rintro e w' ⟨⟨v, rfl, q, rfl, _⟩, hb⟩
                exact ⟨q, rfl, hb⟩)
              have HJ := Lib.hid (show j2 < 7 ∧ wrap64 ((j2 : Int) + 1) = ((j2 + 1 : Nat) : Int) by refine ⟨by omega, ?_⟩; unfold wrap64; omega)
              clear hl hd
              go_upto_region 14 with (first
                | (refine wpList_cvB rfl (.tmp 72) rfl bs rfl HLN.out ?_; rintro c1 y1 hB hb; have HB1 := Lib.hid (And.intro hb hB); clear hB hb)
                | (go_at_call 14; (with_reducible refine (HD.out _ _ _ HB1.out.2).mono ?_); rintro e y2 ⟨q, rfl, hb⟩; have HB2 := Lib.hid (bl HB1.out.1 hb); clear hb)
                | (refine wpList_store_row rfl 25 (.tmp 9) (.tmp 75) rfl y2.heap.size #[.bool false, .slice none 0 0, .slice none 0 0] rfl rfl 25 _ (heap_alloc_last y2 _) (by kernel_rfl) rfl rfl ?_))
              try rw [World.setRow_alloc_new]
              try simp only [Act.put]
              have HB3 := Lib.hid (bl HB2.out (ba y2 (.cells #[.bool false, .slice none 0 0, .slice none 0 0] 25)))
              generalize y2.alloc (.cells #[.bool false, .slice none 0 0, .slice none 0 0] 25) = y3 at *
              clear k0
              go_wp2_with (fail)
              try rw [HJ.out.2]
              go_roundw
              case rel => exact ⟨j2 + 1, rfl, Lib.hid ⟨HJ.out.1, bl HP.out.2.1 HB3.out, fun i hi => by
                obtain ⟨bs, p, k, h0, h1⟩ := HP.out.2.2 i hi
                exact ⟨bs, p, k, keep1 HB3.out h0, h1⟩⟩⟩
              case measure => have := HJ.out.1; show 7 - (j2 + 1) < 7 - j2; omega
            · have HFX := Lib.hid (fixed_walk wr (keep_below HP.out.2.1 _ _ HG.out))
              go_wp2_with (go_at_call 15; (with_reducible refine HFX.out.mono ?_); rintro e y9 ⟨rfl, hb⟩; have H9 := Lib.hid (bl HP.out.2.1 hb); clear hb)
              go_ret
              exact ⟨rfl, H9.out⟩
end Rl
end Go.Proofs.YthlmjcochpodgaaDoor
