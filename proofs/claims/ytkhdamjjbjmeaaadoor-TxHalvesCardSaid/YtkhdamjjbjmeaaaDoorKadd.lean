/-
  (*Hasher).Add: bytes come in. Own work.
-/
import Derived.Test.YtkhdamjjbjmeaaaDoorKnew
import Derived.BigRegion
import Derived.Test.YtkhdamjjbjmeaaaDoorQtl
namespace Go.Proofs.YtkhdamjjbjmeaaaDoor
open Go.RowKit
set_option linter.unusedVariables false
namespace Kc
def slLen : Value → Nat
  | .slice _ n _ => n
  | _ => 0
theorem und22 : Tryd.prog.underlying 38 = some (.slice 5) := by kernel_rfl
theorem size8 : (Tryd.prog.info? 5).map (·.size) = some 1 := by kernel_rfl
theorem sizeOf8 (w : World) : (sizeOf (Tryd.prog.elem 38)).run Tryd.prog w = .ok 1 w := by kernel_rfl
theorem und22' : Tryd.prog.underlying 38 = some (.slice (Tryd.prog.elem 38)) := by kernel_rfl
theorem sliceFrom (q o l : Nat) (hm : l < 136) (w : World) : (Instr.sliceAt 72 (.pointer (some ⟨q, o, none⟩)) (some (.int .i64 (l : Int))) none none).run Tryd.prog w = .ok (.slice (some ⟨q, o + l, none⟩) (136 - l) (136 - l)) w := by
  rw [run_sliceAt_array_l w _ ⟨q, o, none⟩ und136 .i64 l (by omega) (by rw [len136]; omega), size136]
  have e : ¬ 136 = l := by omega
  simp [slicedAt, len136, e, add_at]
/-- b[k:] -/
theorem sliceRest (b o len cap k : Nat) (hk : k ≤ len) (hl : len ≤ cap) : ∃ A : Addr, (∀ w : World, (Instr.slice 38 (.slice (some ⟨b, o, none⟩) len cap) (some (.int .i64 (k : Int))) none none).run Tryd.prog w = .ok (.slice (some A) (len - k) (cap - k)) w) ∧ A.block = b ∧ (k < len → A = ⟨b, o + k, none⟩) := by
  refine ⟨if cap = k then ⟨b, o, none⟩ else ⟨b, o + k, none⟩, fun w => ?_, by split <;> rfl, fun h => by rw [if_neg (by omega)]⟩
  rw [run_slice_l (a := some ⟨b, o, none⟩) (len := len) (cap := cap) w 38 und22' .i64 k (by omega) (by omega), sizeOf8]
  by_cases e : cap = k
  · simp [sliced, e]
  · simp [sliced, e, add_at]
theorem ktab_kept {W w : World} {S : Nat → Prop} (ht : Laid.KTab W) (h : Kept S W w) (hn : ¬ S 1) : Laid.KTab w := fun i hi => h.cell hn (ht i hi)
theorem bs_rest {w : World} {b o k : Nat} {r : List Bt} {A : Addr} (hA : k < r.length → A = ⟨b, o + k, none⟩) (h : ∀ j, j < r.length → w.cell? ⟨b, o + j, none⟩ = some (bv (r.getD j 0#8))) : IsBs w (some A) (r.drop k) := by
  by_cases hk : k < r.length
  · refine .inr ⟨b, o + k, by rw [hA hk], fun j hj => ?_⟩
    rw [List.length_drop] at hj
    rw [Nat.add_assoc, h (k + j) (by omega)]
    simp [List.getD_eq_getElem?_getD]
  · exact .inl (List.drop_eq_nil_of_le (by omega))
def AddR (W : World) (q b o : Nat) (g : Nat → Value) (r : List Bt) (y : World) : Prop :=
  IsTab y q 74 162 g ∧ Kept (· = q) W y ∧ (∀ j, j < r.length → y.cell? ⟨b, o + j, none⟩ = some (bv (r.getD j 0#8))) ∧ Laid.KTab y
theorem AddR.below {W : World} {q b o : Nat} {g : Nat → Value} {r : List Bt} {y y' : World} (h : AddR W q b o g r y) (hb : Below y.heap.size y y') : AddR W q b o g r y' :=
  ⟨h.1.below hb, h.2.1.trans (Kept.ofBelow (S := (· = q)) hb) (fun _ _ h => h), fun j hj => keep1 hb (h.2.2.1 j hj), ktab_below h.2.2.2 hb⟩
theorem load25 {y : World} {q n T : Nat} {g : Nat → Value} (h : IsTab y q T n g) (o : Nat) (a : Nat → Wd64) (ho : o + 25 ≤ n) (hg : ∀ j, j < 25 → g (o + j) = wv (a j)) :
    (Instr.loadAt 71 (.pointer (some ⟨q, o, none⟩))).run Tryd.prog y = .ok (.agg (words a)) y :=
  run_loadAt_mid y q o _ ((List.range 25).map fun i => wv (a i)) _ (h.range o 25 _ ho hg) und25 rfl (by rw [List.length_map, List.length_range]; exact kInfo)
theorem load136 {y : World} {q n T : Nat} {g : Nat → Value} (h : IsTab y q T n g) (o : Nat) (p : Nat → Bt) (ho : o + 136 ≤ n) (hg : ∀ j, j < 136 → g (o + j) = bv (p j)) :
    (Instr.loadAt 72 (.pointer (some ⟨q, o, none⟩))).run Tryd.prog y = .ok (.agg (tab 136 fun i => bv (p i))) y :=
  run_loadAt_mid y q o _ ((List.range 136).map fun i => bv (p i)) _ (h.range o 136 _ ho hg) und136' rfl (by rw [List.length_map, List.length_range]; exact inf136')
theorem hv_load25 {y : World} {q : Nat} {s : Nat → Wd64} {p : Nat → Bt} {f : Nat} (h : IsTab y q 74 162 (hv s p f)) :
    (Instr.loadAt 71 (.pointer (some ⟨q, 0, none⟩))).run Tryd.prog y = .ok (.agg (words s)) y :=
  load25 h 0 s (by decide) (fun j hj => by unfold hv; rw [if_pos (by omega), Nat.zero_add])
theorem hv_load136 {y : World} {q : Nat} {s : Nat → Wd64} {p : Nat → Bt} {f : Nat} (h : IsTab y q 74 162 (hv s p f)) :
    (Instr.loadAt 72 (.pointer (some ⟨q, 25, none⟩))).run Tryd.prog y = .ok (.agg (tab 136 fun i => bv (p i))) y :=
  load136 h 25 p (by decide) (fun j hj => by unfold hv; rw [if_neg (by omega), if_pos (by omega), show 25 + j - 25 = j from by omega])
set_option maxHeartbeats 8000000 in
set_option maxRecDepth 100000 in
theorem add_walk (hP : PermIs) (q : Nat) (l bs : List Bt) (a : Option Addr) (cap : Nat) (w : World) (ht : Laid.KTab w) (hH : IsH w q l) (hB : IsBs w a bs) (hab : ∀ x, a = some x → x.block ≠ q) (hcap : bs.length ≤ cap) (hmax : cap ≤ maxLen) (hq : 1 ≠ q) :
    Calls Tryd.prog 28 #[.pointer (some ⟨q, 0, none⟩), .slice a bs.length cap] w fun e w' => e = .returned .nilIface ∧ IsH w' q (l ++ bs) ∧ Kept (· = q) w w' := by
  unfold maxLen at hmax
  have HT := Lib.hid ht
  have HH := Lib.hid hH
  have HB := Lib.hid hB
  have HAB := Lib.hid hab
  clear ht hH hB hab
  go_enter Tryd.func28, Tryd.ntmps28
  go_wp2_with fail
  go_loopw [1] (fun t y => ∃ (d r : List Bt) (a' : Option Addr) (cap' : Nat), Hid (bs = d ++ r) ∧ r.length ≤ cap' ∧ cap' ≤ 9223372036854775807 ∧ t = .slice a' r.length cap' ∧ Hid (IsH y q (l ++ d)) ∧ Hid (IsBs y a' r) ∧ Hid (∀ x, a' = some x → x.block ≠ q) ∧ Hid (Kept (· = q) w y)) (fun t _ => slLen t)
  case atStart => exact ⟨[], bs, a, cap, Lib.hid rfl, hcap, hmax, rfl, by rw [List.append_nil]; exact HH, HB, HAB, Lib.hid (Kept.refl _ _)⟩
  case round =>
    obtain ⟨d, r, a', cap', hbs, hrc, hcm, rfl, hI, hbr, hax, hk⟩ := hrel
    by_cases hr : r = []
    · subst hr
      go_wp2_with fail
      go_ret
      refine ⟨rfl, ?_, hk.out⟩
      have := hI.out
      rw [hbs.out, List.append_nil]; exact this
    · have hpos : (0 : Int) < (r.length : Int) := by have := List.length_pos_iff.2 hr; omega
      obtain ⟨b, o, hao, hcells⟩ : ∃ b o, a' = some ⟨b, o, none⟩ ∧ Hid (∀ j, j < r.length → wr.cell? ⟨b, o + j, none⟩ = some (bv (r.getD j 0#8))) := by
        rcases hbr.out with h | ⟨b, o, h1, h2⟩
        · exact absurd h hr
        · exact ⟨b, o, h1, Lib.hid h2⟩
      subst hao
      have hbq : Hid (b ≠ q) := Lib.hid (hax.out _ rfl)
      generalize hL : l ++ d = L at *
      have HL := Lib.hid hL
      clear hL
      obtain ⟨pc, hs, hpc⟩ := hI.out
      have HS := Lib.hid hs
      have HPC := Lib.hid hpc
      clear hs hpc hI hbr hax
      have hfl : L.length % 136 < 136 := Nat.mod_lt _ (by decide)
      generalize hF : L.length % 136 = fill at *
      have HF := Lib.hid hF
      clear hF
      generalize hSt : st L (L.length / 136) = s at *
      have HSt := Lib.hid hSt
      clear hSt
      obtain ⟨k, hkk, hcase⟩ : ∃ k, k = min r.length (136 - fill) ∧ ((fill + k = 136 ∧ k ≤ r.length) ∨ (fill + k < 136 ∧ k = r.length)) := ⟨_, rfl, by omega⟩
      have HKK := Lib.hid hkk
      have hk0 : 0 < k := by omega
      have hkr : k ≤ r.length := by omega
      clear hkk
      have HC := Lib.hid hcase
      clear hcase
      have c161 : _ = some (Value.int .i64 (fill : Int)) := HS.out.cell 161 (by decide)
      have hf0 : (0 : Int) ≤ (fill : Int) := by omega
      have hf1 : (fill : Int) < 136 := by omega
      have hsl := sliceFrom q 25 fill hfl
      go_upto_region 4 with (fail)
      go_still_tail 9, (by kernel_rfl)
      change wpList _ _ _ _ _ wr.drew
      have hs1 : IsTab wr.drew q 74 162 (hv s pc fill) := HS.out
      have hsrc : ∀ j, j < k → wr.drew.cell? ((⟨b, o, none⟩ : Addr).add j) = some (bv (r.getD j 0#8)) := fun j hj => by rw [add_at]; exact hcells.out j (by omega)
      refine wpList_copy_tab rfl (.tmp 19) (.tmp 20) 38 38 rfl 5 und22 size8 q (25 + fill) (136 - fill) (136 - fill) ⟨b, o, none⟩ r.length cap' rfl rfl 74 162 (hv s pc fill) hs1 k HKK.out (fun j => bv (r.getD j 0#8)) hsrc (by rcases HC.out with h | h <;> omega) (fun _ => rfl) ?_
      have hs2 : IsTab (wr.drew.setRow q (tab 162 (splv (hv s pc fill) (25 + fill) k fun j => bv (r.getD j 0#8)))) q 74 162 (hv s (pcs pc fill k r) fill) := hs1.row.cong (hv_copy s pc fill k r (by rcases HC.out with h | h <;> omega))
      have hk2 : Kept (· = q) w (wr.drew.setRow q (tab 162 (splv (hv s pc fill) (25 + fill) k fun j => bv (r.getD j 0#8)))) := kept_setRow hk.out.drew (.inl rfl) _
      have hc2 : ∀ j, j < r.length → (wr.drew.setRow q (tab 162 (splv (hv s pc fill) (25 + fill) k fun j => bv (r.getD j 0#8)))).cell? ⟨b, o + j, none⟩ = some (bv (r.getD j 0#8)) := fun j hj => by rw [cell_setRow_other _ _ _ _ hbq.out]; exact hcells.out j hj
      have HS2 := Lib.hid hs2
      have HK2 := Lib.hid hk2
      have HC2 := Lib.hid hc2
      clear hs1 hs2 hk2 hc2 hsrc hsl c161 hk hcells HS
      generalize wr.drew.setRow q (tab 162 (splv (hv s pc fill) (25 + fill) k fun j => bv (r.getD j 0#8))) = y1 at *
      have c161 : _ = some (Value.int .i64 (fill : Int)) := HS2.out.cell 161 (by decide)
      have f161 := HS2.out.fz 161
      obtain ⟨A, hsl, hAb, hAk⟩ := sliceRest b o r.length cap' k hkr hrc
      have HAB2 := Lib.hid hAb
      have HAK := Lib.hid hAk
      clear hAb hAk
      have hk1 : (k : Int) ≤ 136 := by rcases HC.out with h | h <;> omega
      go_upto_region 7 with (fail)
      have e : (fill : Int) + (k : Int) = ((fill + k : Nat) : Int) := by omega
      have hs3 : IsTab (y1.setCell ⟨q, 161, none⟩ (.int .i64 ((fill : Int) + (k : Int)))) q 74 162 (hv s (pcs pc fill k r) (fill + k)) := by
        rw [e]; exact (HS2.out.set 161 _).cong (hv_fill s _ fill (fill + k))
      have hk3 : Kept (· = q) w (y1.setCell ⟨q, 161, none⟩ (.int .i64 ((fill : Int) + (k : Int)))) := HK2.out.setCell (.inl rfl) _
      have hc3 : ∀ j, j < r.length → (y1.setCell ⟨q, 161, none⟩ (.int .i64 ((fill : Int) + (k : Int)))).cell? ⟨b, o + j, none⟩ = some (bv (r.getD j 0#8)) := fun j hj => by
        rw [World.cell?_setCell_other _ _ _ _ (fun h => hbq.out (congrArg Addr.block h).symm)]; exact HC2.out j hj
      have HS3 := Lib.hid hs3
      have HK3 := Lib.hid hk3
      have HC3 := Lib.hid hc3
      clear hs3 hk3 hc3 e HS2 HK2 HC2 c161 f161 hsl
      generalize y1.setCell ⟨q, 161, none⟩ (.int .i64 ((fill : Int) + (k : Int))) = y2 at *
      rcases HC.out with hcs | hcs
      · have c161 : y2.cell? ⟨q, 161, none⟩ = some (Value.int .i64 136) := by
          have := HS3.out.cell 161 (by decide)
          rw [hcs.1] at this
          exact this
        have HCS := Lib.hid hcs
        clear hcs
        go_wp2_with fail
        have HR : Hid (AddR w q b o (hv s (pcs pc fill k r) (fill + k)) r y2) := Lib.hid ⟨HS3.out, HK3.out, HC3.out, ktab_kept HT.out HK3.out hq⟩
        clear HS3 HK3 HC3 c161
        have hld1 : ∀ y, (∃ z : Wd (AddR w q b o (hv s (pcs pc fill k r) (fill + k)) r), y = z.val) → (Instr.loadAt 71 (.pointer (some ⟨q, 0, none⟩))).run Tryd.prog y = .ok (.agg (words s)) y := fun y ⟨z, hz⟩ => by rw [hz]; exact hv_load25 z.ok.1
        have hld2 : ∀ y, (∃ z : Wd (AddR w q b o (hv s (pcs pc fill k r) (fill + k)) r), y = z.val) → (Instr.loadAt 72 (.pointer (some ⟨q, 25, none⟩))).run Tryd.prog y = .ok (.agg (tab 136 fun i => bv (pcs pc fill k r i))) y := fun y ⟨z, hz⟩ => by rw [hz]; exact hv_load136 z.ok.1
        have LD1 := Lib.hid hld1
        have LD2 := Lib.hid hld2
        clear hld1 hld2
        have q1 := fun z : Wd (AddR w q b o (hv s (pcs pc fill k r) (fill + k)) r) => in_of_below z (fun y hb => z.ok.below hb) (absorb_walk hP s (pcs pc fill k r) z.val z.ok.2.2.2)
        have Q1 := Lib.hid q1
        clear q1
        have NE : Nonempty (Wd (AddR w q b o (hv s (pcs pc fill k r) (fill + k)) r)) := ⟨⟨_, HR.out⟩⟩
        have HR2 : Hid (AddR w q b o (hv s (pcs pc fill k r) (fill + k)) r y2.drew) := Lib.hid ⟨HR.out.1, HR.out.2.1.drew, HR.out.2.2.1, HR.out.2.2.2⟩
        refine wp_region_quiet_tail 10 (AddR w q b o (hv s (pcs pc fill k r) (fill + k)) r) (by kernel_rfl) (by kernel_rfl) HR2.out ?_
        simp only [List.take_succ_cons, List.take_zero, List.drop_succ_cons, List.drop_zero]
        repeat (first
          | (refine wpQuiet_load 71 _ (.pointer (some ⟨q, 0, none⟩)) _ rfl rfl rfl LD1.out ?_; simp only [Act.put, List.setIfInBounds_toArray, List.set_cons_zero, List.set_cons_succ])
          | (refine wpQuiet_load 72 _ (.pointer (some ⟨q, 25, none⟩)) _ rfl rfl rfl LD2.out ?_; simp only [Act.put, List.setIfInBounds_toArray, List.set_cons_zero, List.set_cons_succ])
          | (go_big_quiet_step (with_reducible exact Q1.out _)))
        refine wpQuiet_nil ?_
        rintro _ ⟨z, rfl⟩
        have hth := z.ok.1.thereAt 0 25 (by decide)
        have HTH := Lib.hid hth
        clear hth
        go_upto_region 9 with (refine wpList_store_mid rfl 71 (.tmp 49) (.tmp 47) rfl q 0 (words (absorb s (pcs pc fill k r))) rfl rfl HTH.out (inf25 _) (one_wv _ _) ?_)
        have hs4 : IsTab (z.val.setCells q 0 (words (absorb s (pcs pc fill k r))).toList) q 74 162 (hv (absorb s (pcs pc fill k r)) (pcs pc fill k r) (fill + k)) :=
          (IsTab.setCells ((List.range 25).map fun i => wv (absorb s (pcs pc fill k r) i)) 0 _ _ z.ok.1).cong (hv_state s _ _ _)
        have hk4 : Kept (· = q) w (z.val.setCells q 0 (words (absorb s (pcs pc fill k r))).toList) := keptS_setCells (S := (· = q)) (q := q) rfl _ _ _ z.ok.2.1
        have hc4 : ∀ j, j < r.length → (z.val.setCells q 0 (words (absorb s (pcs pc fill k r))).toList).cell? ⟨b, o + j, none⟩ = some (bv (r.getD j 0#8)) := fun j hj => by
          rw [World.cell?_setCells_out _ _ _ _ _ (fun h1 _ => absurd h1 hbq.out)]; exact z.ok.2.2.1 j hj
        have HS4 := Lib.hid hs4
        have HK4 := Lib.hid hk4
        have HC4 := Lib.hid hc4
        clear hs4 hk4 hc4 HTH LD1 LD2 Q1 HR HR2 NE
        generalize z.val.setCells q 0 (words (absorb s (pcs pc fill k r))).toList = y3 at *
        have c161 : _ = some (Value.int .i64 ((fill + k : Nat) : Int)) := HS4.out.cell 161 (by decide)
        have f161 := HS4.out.fz 161
        go_wp2_with fail
        have hs5 : IsTab (y3.setCell ⟨q, 161, none⟩ (.int .i64 0)) q 74 162 (hv (absorb s (pcs pc fill k r)) (pcs pc fill k r) 0) := (HS4.out.set 161 _).cong (hv_fill _ _ (fill + k) 0)
        have HI : IsH (y3.setCell ⟨q, 161, none⟩ (.int .i64 0)) q (l ++ (d ++ r.take k)) := by
          rw [← List.append_assoc, HL.out]
          exact isH_full k hkr (by rw [HF.out]; exact HCS.out.1) (by rw [HF.out]; exact HPC.out) (pcs pc fill k r) (by rw [HSt.out, HF.out]; exact hs5)
        clear c161 f161 hs5
        go_roundw
        case rel =>
          refine ⟨d ++ r.take k, r.drop k, some A, cap' - k, Lib.hid (by rw [List.append_assoc, List.take_append_drop]; exact hbs.out), by rw [List.length_drop]; omega, by omega, by rw [List.length_drop], Lib.hid HI, Lib.hid ?_, Lib.hid (fun x hx => by cases hx; rw [HAB2.out]; exact hbq.out), Lib.hid (HK4.out.setCell (.inl rfl) _)⟩
          exact bs_rest HAK.out (fun j hj => by rw [World.cell?_setCell_other _ _ _ _ (fun h => hbq.out (congrArg Addr.block h).symm)]; exact HC4.out j hj)
        case measure => simp [slLen]; omega
      · have c161 : y2.cell? ⟨q, 161, none⟩ = some (Value.int .i64 ((fill : Int) + (k : Int))) := by
          have := HS3.out.cell 161 (by decide)
          have e : (fill : Int) + (k : Int) = ((fill + k : Nat) : Int) := by omega
          rw [e]; exact this
        have htst : ((fill : Int) + (k : Int) == 136) = false := by
          have : ¬ ((fill : Int) + (k : Int) = 136) := by omega
          simpa using this
        have HI : Hid (IsH y2 q (l ++ (d ++ r.take k))) := by
          refine Lib.hid ?_
          rw [← List.append_assoc, HL.out]
          exact isH_more k hkr (by rw [HF.out]; exact hcs.1) (by rw [HF.out]; exact HPC.out) (by rw [HSt.out, HF.out]; exact HS3.out)
        clear hcs
        go_wp2_with fail
        go_roundw
        case rel =>
          refine ⟨d ++ r.take k, r.drop k, some A, cap' - k, Lib.hid (by rw [List.append_assoc, List.take_append_drop]; exact hbs.out), by rw [List.length_drop]; omega, by omega, by rw [List.length_drop], HI, Lib.hid ?_, Lib.hid (fun x hx => by cases hx; rw [HAB2.out]; exact hbq.out), HK3⟩
          exact bs_rest HAK.out (fun j hj => HC3.out j hj)
        case measure => simp [slLen]; omega
end Kc
end Go.Proofs.YtkhdamjjbjmeaaaDoor
