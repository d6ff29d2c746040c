/- RLP: merged. Own work. -/
import Derived.Test.YtkhdamjjbjmeaaaDoorJ8
import Derived.Test.YtkhdamjjbjmeaaaDoorJ7
import Derived.Test.YtkhdamjjbjmeaaaDoorQin
import Derived.Deep.Cut
import Derived.Deep.LoopGhost
import Derived.Test.YtkhdamjjbjmeaaaDoorOt
import Derived.Lib.Hide
namespace Go.Proofs.YtkhdamjjbjmeaaaDoor
open Go.ChangeShapes Go.WideShapes Go.Deep Go.RowKit
set_option linter.unusedVariables false
set_option linter.unusedSimpArgs false
namespace Rl
theorem min_step (a x : Nat) : min (min a 1099511627776 * 256 + x) 1099511627776 = min (a * 256 + x) 1099511627776 := by omega
theorem num_next {bs : List Bt} {J m : Nat} (h : J + m < bs.length) : num 0 (slc bs J (m + 1)) = num 0 (slc bs J m) * 256 + at' bs (J + m) := by
  rw [slc_add, num_app, slc_one h]; rfl
theorem wrapmin (a : Nat) (x : Nat) (hx : x < 256) : wrap64 (((min a 1099511627776 : Nat) : Int) * 256) = ((min a 1099511627776 * 256 : Nat) : Int) ∧ wrap64 (((min a 1099511627776 * 256 : Nat) : Int) + x) = ((min a 1099511627776 * 256 + x : Nat) : Int) := by
  have h := Nat.min_le_right a 1099511627776
  generalize min a 1099511627776 = z at *
  constructor <;> (unfold wrap64; omega)
theorem minc (x : Nat) : min (x : Int) 1099511627776 = ((min x 1099511627776 : Nat) : Int) := by omega
theorem at_lt (bs : List Bt) (i : Nat) : at' bs i < 256 := by have := (bs.getD i 0#8).isLt; simpa [at'] using this
set_option maxHeartbeats 4000000 in
set_option maxRecDepth 100000 in
theorem ritem_main (l : Bool) (w : World) (q b o N c : Nat) (bs : List Bt) (D : Value) (i e d n f : Nat) (hX : Box4 w q (.slice (some ⟨b, o, none⟩) N c) (.int .i64 i) (.int .i64 0) D) (hB : IsB w (some ⟨b, o, none⟩) N c bs) (hbq : b ≠ q) (hd : d < 16) (hi : i < e) (he : e ≤ N) (hN : N ≤ 4096) (hn : n < 64) (hs : at' bs i = sh l + n) (hf : 2 * (e - i) ≤ f)
    (ih : ∀ (y : World) (j f' M : Nat), Box4 y q (.slice (some ⟨b, o, none⟩) N c) (.int .i64 j) (.int .i64 0) D → IsB y (some ⟨b, o, none⟩) N c bs → j < M → M ≤ N → f' ≤ f → 2 * (M - j) + 1 ≤ f' → Calls Tryd.prog 60 #[.pointer (some ⟨q, 0, none⟩), .int .i64 M, .int .i64 (d + 1 : Nat)] y fun r w' => ritOut y.heap.size q (.slice (some ⟨b, o, none⟩) N c) D w' (one bs f' j M (d + 1)) r ∧ Kept (fun b => b = q) y w') :
    Calls Tryd.prog 60 #[.pointer (some ⟨q, 0, none⟩), .int .i64 e, .int .i64 d] w fun r w' => ritOut w.heap.size q (.slice (some ⟨b, o, none⟩) N c) D w' (one bs (f + 1) i e d) r ∧ Kept (fun b => b = q) w w' := by
  have HFU := Lib.hid hf
  have HI := Lib.hid ih
  clear hf ih
  have HX := Lib.hid (hX.keep (ba w (.cells #[.bool false, .slice none 0 0, .slice none 0 0] 79)))
  have hl := hX.lt
  obtain ⟨k0, k1, k2, k3, f0, f1, f2, f3⟩ := hX.keep (ba w (.cells #[.bool false, .slice none 0 0, .slice none 0 0] 79))
  have hne : ¬ q = w.heap.size := by omega
  have HNE := Lib.hid hne
  obtain ⟨b0, o0, e0, hc⟩ := hB.cellAt (j := i) (by omega)
  injection e0 with e0
  injection e0 with e1 e2
  subst e1 e2
  have hcell : (w.alloc (.cells #[.bool false, .slice none 0 0, .slice none 0 0] 79)).cell? ⟨b, o + i, none⟩ = some (.int .u8 ((at' bs i : Nat) : Int)) := keep1 (ba w (.cells #[.bool false, .slice none 0 0, .slice none 0 0] 79)) hc
  have h16 : ((d : Int) == 16) = false := by simp; omega
  have h1 : (i : Int) < N := by omega
  have h128 : decide (((at' bs i : Nat) : Int) < 128) = false := by cases l <;> simp [sh] at hs ⊢ <;> omega
  have hw1 : wrap64 ((i : Int) + 1) = ((i + 1 : Nat) : Int) := by unfold wrap64; omega
  have hX1 : wrap64 ((at' bs i : Nat) : Int) = ((at' bs i : Nat) : Int) := by clear hw1; unfold wrap64; cases l <;> simp [sh] at hs <;> omega
  have HL : (l = true ∧ (192 : Int) ≤ ((at' bs i : Nat) : Int) ∧ wrap64 (((at' bs i : Nat) : Int) - 192) = (n : Int) ∧ ∃ z : Int, wrap64 (((at' bs i : Nat) : Int) - 128) = z) ∨ (l = false ∧ decide ((192 : Int) ≤ ((at' bs i : Nat) : Int)) = false ∧ wrap64 (((at' bs i : Nat) : Int) - 128) = (n : Int)) := by
    clear hw1 hX1
    cases l
    · simp [sh] at hs; exact .inr ⟨rfl, by simp; omega, by unfold wrap64; omega⟩
    · simp [sh] at hs; exact .inl ⟨rfl, by omega, by unfold wrap64; omega, _, rfl⟩
  have HN := Lib.hid (show i + 1 ≤ e ∧ e ≤ N ∧ N ≤ 4096 ∧ n < 64 ∧ q < w.heap.size ∧ at' bs i = sh l + n ∧ d < 16 from ⟨hi, he, hN, hn, hl, hs, hd⟩)
  have HBB := Lib.hid hB
  have HNQ := Lib.hid hbq
  generalize ((at' bs i : Nat) : Int) = X at *
  clear hl hX hB hc hne hd he hN hs hi hn hbq
  have HR1 : ∀ j : Nat, Hid (Rdr w q (.slice (some ⟨b, o, none⟩) N c) j D ((w.alloc (.cells #[.bool false, .slice none 0 0, .slice none 0 0] 79)).setCell ⟨q, 1, none⟩ (.int .i64 j))) := fun j => Lib.hid ⟨HX.out.put1 (.int .i64 j), (Box3.new w (.bool false) (.slice none 0 0) (.slice none 0 0) 79).other (o := 1) HNE.out (.int .i64 j),
    ((Kept.refl (fun b => b = q) w).alloc (.cells #[.bool false, .slice none 0 0, .slice none 0 0] 79)).setCell (p := ⟨q, 1, none⟩) (.inl rfl) (.int .i64 j)⟩
  generalize hJ : i + 1 = J at *
  rcases HL with ⟨rfl, hl1, hl2, z, hz⟩ | ⟨rfl, hl1, hl2⟩
  all_goals
    go_enter Tryd.func60, Tryd.ntmps60
    go_upto_if 62 with (fail)
    have HR := HR1 J
    clear k0 k1 k2 k3 f0 f1 f2 f3 HX hcell HR1
    generalize (w.alloc (.cells #[.bool false, .slice none 0 0, .slice none 0 0] 79)).setCell ⟨q, 1, none⟩ (.int .i64 J) = W2 at *
    rw [hl2]
    clear h16 h1 h128 hw1 hX1 hl1 hl2
    try clear hz z
  · go_cut [10] from 11 (fun v y => ∃ s m : Nat, v = .int .i64 m ∧ Hid (hd bs i e = .ok true s m ∧ Rdr w q (.slice (some ⟨b, o, none⟩) N c) (i + s) D y))
    case rest =>
      obtain ⟨s, m, rfl, hp⟩ := hcut
      have hg := hd_ok (show i < e by have := HN.out; omega) (show e ≤ bs.length by rw [← HBB.out.1]; exact HN.out.2.1) hp.out.1
      have hsk := hd_skip hp.out.1
      have HO := Lib.hid (one_list (f := f) HN.out.2.2.2.2.2.2 hp.out.1)
      have HR := Lib.hid hp.out.2
      have HFU2 := Lib.hid (show 2 * ((i + s + m) - (i + s)) + 2 ≤ f by have := HFU.out; have := HN.out; omega)
      have hM : i + s + m ≤ N := by have := HN.out; omega
      clear hp hsk
      generalize i + s = P at *
      have HMM := Lib.hid (show wrap64 ((P : Int) + m) = ((P + m : Nat) : Int) by have := HN.out; unfold wrap64; omega)
      have HWD := Lib.hid (show wrap64 ((d : Int) + 1) = ((d + 1 : Nat) : Int) by have := HN.out; unfold wrap64; omega)
      have HWD2 := Lib.hid (show IntKind.i64.wrap ((d : Int) + 1) = (d : Int) + 1 by have := HN.out; rw [IntKind.wrap_i64]; omega)
      have HMQ := Lib.hid hM
      have HPM := Lib.hid (show P ≤ P + m by omega)
      clear hg hM
      generalize P + m = M at *
      obtain ⟨k0, k1, k2, k3, f0, f1, f2, f3⟩ := HR.out.box
      go_wp2_with (fail)
      clear k0 k1 k2 k3 f0 f1 f2 f3
      rw [HMM.out]
      have HL : Hid (Lrd w q (.slice (some ⟨b, o, none⟩) N c) P 0 D wc.heap.size (.slice none 0 0) .nil (wc.alloc (.cells #[.bool true, .slice none 0 0, .slice none 0 0] 79))) := Lib.hid ⟨HR.out.box.keep (ba _ _), HR.out.res.keep (ba _ _), Box3.new _ _ _ _ _, RowI.nil _ _ _, HR.out.kept.alloc _, inHeap HR.out.res.k0, HN.out.2.2.2.2.1⟩
      generalize wc.alloc (.cells #[.bool true, .slice none 0 0, .slice none 0 0] 79) = y2 at *
      generalize hxq : wc.heap.size = xq at *
      go_loopg [199] (M - P + 1) (fun g t y => ∃ (j : Nat) (kk : Int) (D' : Value) (acc : Fo) (V : Value), Hid (Lrd w q (.slice (some ⟨b, o, none⟩) N c) j kk D' xq V acc y ∧ ((kk = 0 ∧ D' = D ∧ g = M - j + 1 ∧ j ≤ M ∧ acc.len ≤ j ∧ ∃ f', 2 * (M - j) + 2 ≤ f' ∧ f' ≤ f ∧ items bs f P M (d + 1) = glue acc (items bs f' j M (d + 1))) ∨ (kk ≠ 0 ∧ g = 0 ∧ ∃ p : Nat, D' = .int .i64 p ∧ items bs f P M (d + 1) = .bad p kk))))
      case atStart => exact ⟨P, 0, D, .nil, _, Lib.hid ⟨HL.out, .inl ⟨rfl, rfl, rfl, HPM.out, Nat.zero_le _, f, HFU2.out, Nat.le_refl _, (glue_nil _).symm⟩⟩⟩
      case round =>
        obtain ⟨j, kk, D', acc, V, hp⟩ := hrel
        clear HL
        have HL := Lib.hid hp.out.1
        rcases hp.out.2 with ⟨rfl, rfl, hk, hjM, hacc, f', hf1, hf2, hit⟩ | ⟨hkk, hk, p, rfl, hit⟩
        · by_cases hlt : (j : Int) < M
          · obtain ⟨f', rfl⟩ : ∃ z, f' = z + 1 := ⟨f' - 1, by omega⟩
            have HJ := Lib.hid (show gk = M - j + 1 ∧ acc.len + 1 ≤ 1073741824 by have := HN.out; have := HMQ.out; refine ⟨hk, by omega⟩)
            have HAC := Lib.hid hacc
            have HFF := Lib.hid (show 2 * (M - j) + 1 ≤ f' ∧ f' ≤ f by omega)
            have HREL := Lib.hid (show (∀ l x k j3, one bs f' j M (d + 1) = .ok l x k j3 → j < j3 ∧ j3 ≤ M ∧ items bs f P M (d + 1) = glue (acc.app (.cons l x k .nil)) (items bs f' j3 M (d + 1))) ∧ (∀ p kk, one bs f' j M (d + 1) = .bad p kk → items bs f P M (d + 1) = .bad p kk) from
              ⟨fun l x k j3 h => ⟨(one_next (by omega) (by rw [← HBB.out.1]; exact HMQ.out) h).1, (one_next (by omega) (by rw [← HBB.out.1]; exact HMQ.out) h).2, by rw [hit, items_ok (by omega) h, glue_glue]⟩, fun p kk h => by rw [hit, items_bad (by omega) h]; rfl⟩)
            have HC := Lib.hid (fun y (h : Lrd w q (.slice (some ⟨b, o, none⟩) N c) j 0 D' xq V acc y) => HI.out y j f' M h.box (HBB.out.kept h.kept HNQ.out) (by omega) HMQ.out HFF.out.2 HFF.out.1)
            have HLw := Lib.hid HL.out.drew
            obtain ⟨k0, k1, k2, k3, _, _, _, _⟩ := HL.out.box
            clear hp hk hjM hacc hf1 hf2 hit
            go_upto_region 39 with (fail)
            clear k0 k1 k2 k3 hlt
            refine wp_region_og (fun _ => True) (.take 0 (.take 2 (.take 3 (.take 4 (.take 5 (.two 1 (.one 6 (.one 7 (.one 8 (.one 9 (.one 10 .done))))) 6 (.two 1 (.one 7 (.one 8 (.one 9 (.one 10 .done)))) 7 (.one 1 (.one 8 (.one 9 (.one 10 .done)))))))))))  (by kernel_rfl) (by kernel_rfl) trivial ?_
            generalize wr.drew = w2 at *
            have HLc := Lib.hid HLw.out
            refine og_tk (some 209) (.pointer (some ⟨xq, 2, none⟩)) rfl rfl (by go_simp) (fun _ _ => by simp [execOp, go_sem]) ?_
            refine og_tk (some 211) (.pointer (some ⟨q, 0, none⟩)) rfl rfl (by go_simp) (fun _ _ => by simp [execOp, go_sem]) ?_
            refine og_tk (some 212) (.int .i64 M) rfl rfl (by go_simp) (fun _ _ => by simp [execOp, go_sem]) ?_
            refine og_tk (some 213) (.int .i64 d) rfl rfl (by go_simp) (fun _ _ => by simp [execOp, go_sem]) ?_
            refine og_tk (some 214) (.int .i64 (d + 1 : Nat)) rfl rfl (by go_simp) (fun _ _ => by simp [execOp, go_sem]; exact HWD2.out) ?_
            simp only [Act.put, List.setIfInBounds_toArray, List.set_cons_zero, List.set_cons_succ]
            refine og_two ?_ ?_
            · skip
              refine og_of rfl (by go_simp) fun K hK => ?_
              have x2 := HLc.out.it.k2
              go_simp
              refine hK _ _ trivial ?_
              try simp only [Act.put, List.setIfInBounds_toArray, List.set_cons_zero, List.set_cons_succ]
              clear hK K x2
              refine og_f rfl (by go_simp) fun K hK => ?_
              go_simp
              refine (HC.out _ HLw.out).mono ?_
              rintro r y3 ⟨⟨l3, x3, k3, a3, n3, c3, a4, n4, c4, j3, kk3, D3, rfl, hB3, hK3, hbx, hor⟩, hkp⟩
              have HOR := Lib.hid hor
              have HNB := Lib.hid (show ∀ y4, Below y3.heap.size y3 y4 → Keep (see (fun b => w2.heap.size ≤ b) y3) (see (Bes (w.heap.size + 1) xq V) y4) from fun y4 h4 => new_bes HLw.out.row (inHeap HLw.out.it.k0) (inHeap HLw.out.res.k0) h4)
              have HB3 := Lib.hid (And.intro hB3 hK3)
              have HLc := Lib.hid (HLc.out.call hkp hbx)
              refine hK _ _ trivial ?_
              try simp only [Act.put, List.setIfInBounds_toArray, List.set_cons_zero, List.set_cons_succ]
              clear hK K hB3 hK3 hbx hor hkp
              refine og_f rfl (by go_simp) fun K hK => ?_
              go_simp
              refine hK _ _ trivial ?_
              try simp only [Act.put, List.setIfInBounds_toArray, List.set_cons_zero, List.set_cons_succ]
              clear hK K
              have HLc := Lib.hid (HLc.out.next (ba _ (.cells #[.bool l3, .slice a3 n3 c3, .slice a4 n4 c4] 79)))
              have HB3 := Lib.hid (show IsV (see (Bes (w.heap.size + 1) xq V) (y3.alloc (.cells #[.bool l3, .slice a3 n3 c3, .slice a4 n4 c4] 79))) (.cons l3 x3 k3 .nil) [.bool l3, .slice a3 n3 c3, .slice a4 n4 c4] from it_news (HB3.out.1.keep (HNB.out _ (ba _ _))) (HB3.out.2.keep (HNB.out _ (ba _ _))))
              have HC3 := Lib.hid (three_new y3 (.bool l3) (.slice a3 n3 c3) (.slice a4 n4 c4) 79)
              generalize y3.alloc (.cells #[.bool l3, .slice a3 n3 c3, .slice a4 n4 c4] 79) = y4 at *
              refine og_f rfl (by go_simp) fun K hK => ?_
              refine wp_appI (some 217) (.tmp 210) (.tmp 216) rfl rfl (w.heap.size + 1) xq V acc rfl HLc.out.row (inHeap HLc.out.res.k0) (inHeap HLc.out.it.k0) ⟨y3.heap.size, 0, none⟩ l3 x3 k3 (.slice a3 n3 c3) (.slice a4 n4 c4) 1 rfl HB3.out HC3.out HJ.out.2 ?_
              intro V5 y5 hr hg hat
              obtain ⟨a6, c6, rfl, _⟩ := hr.isK
              have HC5 := Lib.hid (HLc.out.put hg hr)
              have hx5 := HLc.out.it.grown hg HLc.out.row.1
              have x4 := hx5.k2
              have x5 := hx5.f2
              refine hK _ _ trivial ?_
              try simp only [Act.put, List.setIfInBounds_toArray, List.set_cons_zero, List.set_cons_succ]
              clear hK K hr hg hat hx5
              refine og_f rfl (by go_simp) fun K hK => ?_
              go_simp
              refine hK _ _ trivial ?_
              clear hK K
              refine og_f rfl (by go_simp) fun K hK => ?_
              go_simp
              refine hK _ _ trivial ?_
              clear hK K
              refine og_done (NoPanic.normal ?_)
              clear x4 x5
              go_wp2_with (fail)
              rcases HOR.out with ⟨ho, rfl, rfl⟩ | ⟨p, ho, hk3, rfl⟩
              · have hz := HREL.out.1 _ _ _ _ ho
                go_roundg (M - j3 + 1)
                case measure => have := hz.1; have := hz.2.1; have := HJ.out.1; omega
                case rel => exact ⟨j3, 0, _, _, _, Lib.hid ⟨HC5.out, .inl ⟨rfl, rfl, rfl, hz.2.1, by rw [Fo.app_len]; have := HAC.out; have := hz.1; show acc.len + 1 ≤ j3; omega, f', by have := hz.1; have := hz.2.1; have := HFF.out.1; omega, HFF.out.2, hz.2.2⟩⟩⟩
              · go_roundg 0
                case measure => have := HJ.out.1; omega
                case rel => exact ⟨j3, kk3, _, _, _, Lib.hid ⟨HC5.out, .inr ⟨hk3, rfl, p, rfl, HREL.out.2 _ _ ho⟩⟩⟩
            · skip
              refine og_of rfl (by go_simp) fun K hK => ?_
              go_simp
              refine (HC.out _ HLw.out).mono ?_
              rintro r y3 ⟨⟨l3, x3, k3, a3, n3, c3, a4, n4, c4, j3, kk3, D3, rfl, hB3, hK3, hbx, hor⟩, hkp⟩
              have HOR := Lib.hid hor
              have HNB := Lib.hid (show ∀ y4, Below y3.heap.size y3 y4 → Keep (see (fun b => w2.heap.size ≤ b) y3) (see (Bes (w.heap.size + 1) xq V) y4) from fun y4 h4 => new_bes HLw.out.row (inHeap HLw.out.it.k0) (inHeap HLw.out.res.k0) h4)
              have HB3 := Lib.hid (And.intro hB3 hK3)
              have HLc := Lib.hid (HLc.out.call hkp hbx)
              refine hK _ _ trivial ?_
              try simp only [Act.put, List.setIfInBounds_toArray, List.set_cons_zero, List.set_cons_succ]
              clear hK K hB3 hK3 hbx hor hkp
              refine og_two ?_ ?_
              · skip
                refine og_of rfl (by go_simp) fun K hK => ?_
                have x2 := HLc.out.it.k2
                go_simp
                refine hK _ _ trivial ?_
                try simp only [Act.put, List.setIfInBounds_toArray, List.set_cons_zero, List.set_cons_succ]
                clear hK K x2
                refine og_f rfl (by go_simp) fun K hK => ?_
                go_simp
                refine hK _ _ trivial ?_
                try simp only [Act.put, List.setIfInBounds_toArray, List.set_cons_zero, List.set_cons_succ]
                clear hK K
                have HLc := Lib.hid (HLc.out.next (ba _ (.cells #[.bool l3, .slice a3 n3 c3, .slice a4 n4 c4] 79)))
                have HB3 := Lib.hid (show IsV (see (Bes (w.heap.size + 1) xq V) (y3.alloc (.cells #[.bool l3, .slice a3 n3 c3, .slice a4 n4 c4] 79))) (.cons l3 x3 k3 .nil) [.bool l3, .slice a3 n3 c3, .slice a4 n4 c4] from it_news (HB3.out.1.keep (HNB.out _ (ba _ _))) (HB3.out.2.keep (HNB.out _ (ba _ _))))
                have HC3 := Lib.hid (three_new y3 (.bool l3) (.slice a3 n3 c3) (.slice a4 n4 c4) 79)
                generalize y3.alloc (.cells #[.bool l3, .slice a3 n3 c3, .slice a4 n4 c4] 79) = y4 at *
                refine og_f rfl (by go_simp) fun K hK => ?_
                refine wp_appI (some 217) (.tmp 210) (.tmp 216) rfl rfl (w.heap.size + 1) xq V acc rfl HLc.out.row (inHeap HLc.out.res.k0) (inHeap HLc.out.it.k0) ⟨y3.heap.size, 0, none⟩ l3 x3 k3 (.slice a3 n3 c3) (.slice a4 n4 c4) 1 rfl HB3.out HC3.out HJ.out.2 ?_
                intro V5 y5 hr hg hat
                obtain ⟨a6, c6, rfl, _⟩ := hr.isK
                have HC5 := Lib.hid (HLc.out.put hg hr)
                have hx5 := HLc.out.it.grown hg HLc.out.row.1
                have x4 := hx5.k2
                have x5 := hx5.f2
                refine hK _ _ trivial ?_
                try simp only [Act.put, List.setIfInBounds_toArray, List.set_cons_zero, List.set_cons_succ]
                clear hK K hr hg hat hx5
                refine og_f rfl (by go_simp) fun K hK => ?_
                go_simp
                refine hK _ _ trivial ?_
                clear hK K
                refine og_f rfl (by go_simp) fun K hK => ?_
                go_simp
                refine hK _ _ trivial ?_
                clear hK K
                refine og_done (NoPanic.normal ?_)
                clear x4 x5
                go_wp2_with (fail)
                rcases HOR.out with ⟨ho, rfl, rfl⟩ | ⟨p, ho, hk3, rfl⟩
                · have hz := HREL.out.1 _ _ _ _ ho
                  go_roundg (M - j3 + 1)
                  case measure => have := hz.1; have := hz.2.1; have := HJ.out.1; omega
                  case rel => exact ⟨j3, 0, _, _, _, Lib.hid ⟨HC5.out, .inl ⟨rfl, rfl, rfl, hz.2.1, by rw [Fo.app_len]; have := HAC.out; have := hz.1; show acc.len + 1 ≤ j3; omega, f', by have := hz.1; have := hz.2.1; have := HFF.out.1; omega, HFF.out.2, hz.2.2⟩⟩⟩
                · go_roundg 0
                  case measure => have := HJ.out.1; omega
                  case rel => exact ⟨j3, kk3, _, _, _, Lib.hid ⟨HC5.out, .inr ⟨hk3, rfl, p, rfl, HREL.out.2 _ _ ho⟩⟩⟩
              · skip
                refine og_of rfl (by go_simp) fun K hK => ?_
                go_simp
                refine hK _ _ trivial ?_
                try simp only [Act.put, List.setIfInBounds_toArray, List.set_cons_zero, List.set_cons_succ]
                clear hK K
                have HLc := Lib.hid (HLc.out.next (ba _ (.cells #[.bool l3, .slice a3 n3 c3, .slice a4 n4 c4] 79)))
                have HB3 := Lib.hid (show IsV (see (Bes (w.heap.size + 1) xq V) (y3.alloc (.cells #[.bool l3, .slice a3 n3 c3, .slice a4 n4 c4] 79))) (.cons l3 x3 k3 .nil) [.bool l3, .slice a3 n3 c3, .slice a4 n4 c4] from it_news (HB3.out.1.keep (HNB.out _ (ba _ _))) (HB3.out.2.keep (HNB.out _ (ba _ _))))
                have HC3 := Lib.hid (three_new y3 (.bool l3) (.slice a3 n3 c3) (.slice a4 n4 c4) 79)
                generalize y3.alloc (.cells #[.bool l3, .slice a3 n3 c3, .slice a4 n4 c4] 79) = y4 at *
                refine og_f rfl (by go_simp) fun K hK => ?_
                have x2 := HLc.out.it.k2
                go_simp
                refine hK _ _ trivial ?_
                try simp only [Act.put, List.setIfInBounds_toArray, List.set_cons_zero, List.set_cons_succ]
                clear hK K x2
                refine og_f rfl (by go_simp) fun K hK => ?_
                refine wp_appI (some 217) (.tmp 210) (.tmp 216) rfl rfl (w.heap.size + 1) xq V acc rfl HLc.out.row (inHeap HLc.out.res.k0) (inHeap HLc.out.it.k0) ⟨y3.heap.size, 0, none⟩ l3 x3 k3 (.slice a3 n3 c3) (.slice a4 n4 c4) 1 rfl HB3.out HC3.out HJ.out.2 ?_
                intro V5 y5 hr hg hat
                obtain ⟨a6, c6, rfl, _⟩ := hr.isK
                have HC5 := Lib.hid (HLc.out.put hg hr)
                have hx5 := HLc.out.it.grown hg HLc.out.row.1
                have x4 := hx5.k2
                have x5 := hx5.f2
                refine hK _ _ trivial ?_
                try simp only [Act.put, List.setIfInBounds_toArray, List.set_cons_zero, List.set_cons_succ]
                clear hK K hr hg hat hx5
                refine og_f rfl (by go_simp) fun K hK => ?_
                go_simp
                refine hK _ _ trivial ?_
                clear hK K
                refine og_f rfl (by go_simp) fun K hK => ?_
                go_simp
                refine hK _ _ trivial ?_
                clear hK K
                refine og_done (NoPanic.normal ?_)
                clear x4 x5
                go_wp2_with (fail)
                rcases HOR.out with ⟨ho, rfl, rfl⟩ | ⟨p, ho, hk3, rfl⟩
                · have hz := HREL.out.1 _ _ _ _ ho
                  go_roundg (M - j3 + 1)
                  case measure => have := hz.1; have := hz.2.1; have := HJ.out.1; omega
                  case rel => exact ⟨j3, 0, _, _, _, Lib.hid ⟨HC5.out, .inl ⟨rfl, rfl, rfl, hz.2.1, by rw [Fo.app_len]; have := HAC.out; have := hz.1; show acc.len + 1 ≤ j3; omega, f', by have := hz.1; have := hz.2.1; have := HFF.out.1; omega, HFF.out.2, hz.2.2⟩⟩⟩
                · go_roundg 0
                  case measure => have := HJ.out.1; omega
                  case rel => exact ⟨j3, kk3, _, _, _, Lib.hid ⟨HC5.out, .inr ⟨hk3, rfl, p, rfl, HREL.out.2 _ _ ho⟩⟩⟩
          · obtain rfl : j = M := by omega
            have HE := Lib.hid (show items bs f P j (d + 1) = .ok acc by
              obtain ⟨f', rfl⟩ : ∃ z, f' = z + 1 := ⟨f' - 1, by omega⟩
              rw [hit, items_end (Nat.le_refl _)]
              show Rn.ok (acc.app .nil) = _
              rw [Fo.app_nil])
            clear hp hk hjM hacc hf1 hf2 hit
            obtain ⟨a5, c5, rfl, hK5⟩ := HL.out.row.isK
            have HK5 := Lib.hid hK5
            clear hK5
            obtain ⟨k0, k1, k2, k3, f0, f1, f2, f3⟩ := HL.out.box
            obtain ⟨x0, x1, x2, _, _, _⟩ := HL.out.it
            obtain ⟨g0, g1, g2, e0, e1, e2⟩ := HL.out.res
            go_wp2_with (fail)
            have Y := (Box3.mk g0 g1 g2 e0 e1 e2).put (.bool true) (.slice none 0 0) (.slice a5 acc.len c5)
            refine bodyPost_ret (v := .agg #[.bool true, .slice none 0 0, .slice a5 acc.len c5]) (by simp [results, Tryd.results60, go_sem, Y.k0, Y.k1, Y.k2]) rfl ⟨?_, kept_put3 HL.out.kept (.inr (Nat.le_refl _)) _ _ _⟩
            rw [HO.out, HE.out]
            exact ⟨true, [], acc, none, 0, 0, a5, _, c5, j, 0, _, rfl, noB _, HK5.out.keep (put3_up _ _ _ _ _), HL.out.box.put_other HNE.out _ _ _, .inl ⟨rfl, rfl, rfl⟩⟩
        · have HE := Lib.hid hit
          have HKK := Lib.hid hkk
          have hk0 : (kk == 0) = false := beq_eq_false_iff_ne.2 hkk
          clear hp hk hit hkk
          by_cases hlt : (j : Int) < M
          · skip
            obtain ⟨a5, c5, rfl, hK5⟩ := HL.out.row.isK
            have HK5 := Lib.hid hK5
            clear hK5
            obtain ⟨k0, k1, k2, k3, f0, f1, f2, f3⟩ := HL.out.box
            obtain ⟨x0, x1, x2, _, _, _⟩ := HL.out.it
            obtain ⟨g0, g1, g2, e0, e1, e2⟩ := HL.out.res
            go_wp2_with (fail)
            have Y := (Box3.mk g0 g1 g2 e0 e1 e2).put (.bool true) (.slice none 0 0) (.slice a5 acc.len c5)
            refine bodyPost_ret (v := .agg #[.bool true, .slice none 0 0, .slice a5 acc.len c5]) (by simp [results, Tryd.results60, go_sem, Y.k0, Y.k1, Y.k2]) rfl ⟨?_, kept_put3 HL.out.kept (.inr (Nat.le_refl _)) _ _ _⟩
            rw [HO.out, HE.out]
            exact ⟨true, [], acc, none, 0, 0, a5, _, c5, j, kk, _, rfl, noB _, HK5.out.keep (put3_up _ _ _ _ _), HL.out.box.put_other HNE.out _ _ _, .inr ⟨p, rfl, HKK.out, rfl⟩⟩
          · skip
            obtain ⟨a5, c5, rfl, hK5⟩ := HL.out.row.isK
            have HK5 := Lib.hid hK5
            clear hK5
            obtain ⟨k0, k1, k2, k3, f0, f1, f2, f3⟩ := HL.out.box
            obtain ⟨x0, x1, x2, _, _, _⟩ := HL.out.it
            obtain ⟨g0, g1, g2, e0, e1, e2⟩ := HL.out.res
            go_wp2_with (fail)
            have Y := (Box3.mk g0 g1 g2 e0 e1 e2).put (.bool true) (.slice none 0 0) (.slice a5 acc.len c5)
            refine bodyPost_ret (v := .agg #[.bool true, .slice none 0 0, .slice a5 acc.len c5]) (by simp [results, Tryd.results60, go_sem, Y.k0, Y.k1, Y.k2]) rfl ⟨?_, kept_put3 HL.out.kept (.inr (Nat.le_refl _)) _ _ _⟩
            rw [HO.out, HE.out]
            exact ⟨true, [], acc, none, 0, 0, a5, _, c5, j, kk, _, rfl, noB _, HK5.out.keep (put3_up _ _ _ _ _), HL.out.box.put_other HNE.out _ _ _, .inr ⟨p, rfl, HKK.out, rfl⟩⟩
    case first =>
      have HQL := Lib.hid (show ¬ q = w.heap.size from HNE.out)
      by_cases h56 : n < 56
      · have h56d : decide ((56 : Int) ≤ n) = false := by simp; omega
        rw [h56d]
        have hw2 : wrap64 ((e : Int) - J) = ((e - J : Nat) : Int) := by have := HN.out; unfold wrap64; omega
        obtain ⟨k0, k1, k2, k3, f0, f1, f2, f3⟩ := HR.out.box
        by_cases hen : e < J + n
        · have hgt : ((e - J : Nat) : Int) < n := by have := HN.out; omega
          have HO := Lib.hid (show hd bs i e = .bad 11 from hd_s11 HN.out.2.2.2.2.2.1 h56 (by omega))
          clear h56 hen
          go_wp2_with (go_at_call 61; (with_reducible refine (rdr_fail HR.out HN.out.2.2.2.2.1 i 11).mono ?_); rintro r y1 ⟨rfl, hb⟩; obtain ⟨g0, g1, g2, e0, e1, e2⟩ := hb.out.2.1; unfold zIt)
          have Y := (Box3.mk g0 g1 g2 e0 e1 e2).put (.bool false) (.slice none 0 0) (.slice none 0 0)
          refine bodyPost_ret (v := zIt) (by simp [results, Tryd.results60, go_sem, zIt, Y.k0, Y.k1, Y.k2]) rfl ⟨?_, kept_put3 hb.out.2.2 (.inr (Nat.le_refl _)) _ _ _⟩
          rw [one_bad HN.out.2.2.2.2.2.2 HO.out]
          exact ritOut_bad (by decide) (hb.out.1.put_other HNE.out _ _ _)
        · have hgt : decide (e - J < n) = false := by have := HN.out; simp; omega
          have HE := Lib.hid hen
          have H6 := Lib.hid h56
          clear h56 hen
          go_upto_region 30 with (fail)
          clear k0 k1 k2 k3 f0 f1 f2 f3
          have s0 : Below W2.heap.size W2 W2.drew := (Below.refl _ _).drew
          have NE : Nonempty (Wd (Below W2.heap.size W2)) := ⟨⟨_, s0⟩⟩
          have S0 := Lib.hid s0
          clear s0
          refine wp_region_in (Below W2.heap.size W2) (by kernel_rfl) (by kernel_rfl) S0.out ?_
          repeat (go_big_quiet_step (fail))
          refine wpQuiet_nil ?_
          rintro y ⟨⟨_, hby⟩, rfl⟩
          have HR := Lib.hid (HR.out.next hby)
          clear hby S0 NE
          go_wp2_with (fail)
          go_meet
          case rel => exact ⟨1, n, rfl, Lib.hid ⟨hd_sok HN.out.2.2.2.2.2.1 H6.out (by have := HE.out; omega) (.inl rfl), by rw [hJ]; exact HR.out⟩⟩
      · have HH56 := Lib.hid h56
        have h56d : decide ((56 : Int) ≤ n) = true := by simp; omega
        rw [h56d]
        have hk : wrap64 ((n : Int) - 55) = ((n - 55 : Nat) : Int) := by have := HN.out; unfold wrap64; omega
        have hw2 : wrap64 ((e : Int) - J) = ((e - J : Nat) : Int) := by have := HN.out; unfold wrap64; omega
        have HK := Lib.hid (show 1 ≤ n - 55 ∧ n - 55 ≤ 8 by have := HN.out; omega)
        have HS := Lib.hid (hd_long (e := e) HN.out.2.2.2.2.2.1 (by omega) HN.out.2.2.2.1)
        clear h56
        generalize n - 55 = K at *
        obtain ⟨k0, k1, k2, k3, f0, f1, f2, f3⟩ := HR.out.box
        by_cases hen : e < J + K
        · have hgt : ((e - J : Nat) : Int) < K := by have := HN.out; omega
          have HO := Lib.hid (show hd bs i e = .bad 11 from hd_l11 HS.out (by rw [hJ]; exact hen))
          clear hen
          go_wp2_with (go_at_call 61; (with_reducible refine (rdr_fail HR.out HN.out.2.2.2.2.1 i 11).mono ?_); rintro r y1 ⟨rfl, hb⟩; obtain ⟨g0, g1, g2, e0, e1, e2⟩ := hb.out.2.1; unfold zIt)
          have Y := (Box3.mk g0 g1 g2 e0 e1 e2).put (.bool false) (.slice none 0 0) (.slice none 0 0)
          refine bodyPost_ret (v := zIt) (by simp [results, Tryd.results60, go_sem, zIt, Y.k0, Y.k1, Y.k2]) rfl ⟨?_, kept_put3 hb.out.2.2 (.inr (Nat.le_refl _)) _ _ _⟩
          rw [one_bad HN.out.2.2.2.2.2.2 HO.out]
          exact ritOut_bad (by decide) (hb.out.1.put_other HNE.out _ _ _)
        · have hgt : decide (e - J < K) = false := by have := HN.out; simp; omega
          have HE := Lib.hid hen
          clear hen
          go_wp2_with (fail)
          clear k0 k1 k2 k3 f0 f1 f2 f3 hgt hw2
          go_loopw [10, 12] (fun v t y => ∃ m : Nat, v = .int .i64 ((min (num 0 (slc bs J m)) 1099511627776 : Nat) : Int) ∧ t = .int .i64 m ∧ Hid (m ≤ K ∧ Rdr w q (.slice (some ⟨b, o, none⟩) N c) J D y)) (fun _ t _ => K - (intOf t).toNat)
          case atStart => exact ⟨0, rfl, rfl, Lib.hid ⟨Nat.zero_le _, HR.out⟩⟩
          case round =>
            obtain ⟨m, rfl, rfl, hp⟩ := hrel
            have HR := Lib.hid hp.out.2
            by_cases hlt : (m : Int) < (K : Int)
            · have HJM := Lib.hid (show m < K ∧ wrap64 ((m : Int) + 1) = ((m + 1 : Nat) : Int) by have := HK.out; refine ⟨by omega, ?_⟩; unfold wrap64; omega)
              have HB1 := Lib.hid (show J + m < N by have := HN.out; have := HE.out; omega)
              have HNX := Lib.hid (show min (min (num 0 (slc bs J m)) 1099511627776 * 256 + at' bs (J + m)) 1099511627776 = min (num 0 (slc bs J (m + 1))) 1099511627776 by rw [min_step, num_next (by rw [← HBB.out.1]; exact HB1.out)])
              obtain ⟨hv1, hv2⟩ := wrapmin (num 0 (slc bs J m)) (at' bs (J + m)) (at_lt _ _)
              have HC2 := Lib.hid (show wr.cell? ⟨b, o + (J + m), none⟩ = some (.int .u8 ((at' bs (J + m) : Nat) : Int)) by
                obtain ⟨b0, o0, e0, hc2⟩ := HBB.out.cellAt (j := J + m) HB1.out
                injection e0 with e0
                injection e0 with e1 e2
                subst e1 e2
                exact HR.out.kept.cell HNQ.out hc2)
              have hjn : ((J + m : Nat) : Int) < N := by have := HB1.out; omega
              have hw5 : wrap64 ((J : Int) + m) = ((J + m : Nat) : Int) := by have := HB1.out; have := HN.out; unfold wrap64; omega
              have hw6 : wrap64 ((at' bs (J + m) : Nat) : Int) = ((at' bs (J + m) : Nat) : Int) := by have := at_lt bs (J + m); unfold wrap64; omega
              have hmn : ∀ (s : Wd (Below wr.heap.size wr)) (ts : Array TypeId) (t : TypeId), (Builtin.min_ ts t #[.int .i64 ((min (num 0 (slc bs J m)) 1099511627776 * 256 + at' bs (J + m) : Nat) : Int), .int .i64 1099511627776]).run Tryd.prog s.val = .ok (.int .i64 ((min (num 0 (slc bs J (m + 1))) 1099511627776 : Nat) : Int)) s.val := fun s ts t => by
                rw [run_min2, minc, HNX.out]
              generalize min (num 0 (slc bs J m)) 1099511627776 * 256 + at' bs (J + m) = A2 at *
              generalize min (num 0 (slc bs J m)) 1099511627776 * 256 = A1 at *
              generalize min (num 0 (slc bs J m)) 1099511627776 = A0 at *
              clear hp
              go_upto_region 21 with (fail)
              have s0 : Below wr.heap.size wr wr.drew := (Below.refl _ _).drew
              have NE : Nonempty (Wd (Below wr.heap.size wr)) := ⟨⟨_, s0⟩⟩
              have S0 := Lib.hid s0
              clear s0
              have j0 : ∀ s : (Wd (Below wr.heap.size wr)), s.val.cell? ⟨q, 0, none⟩ = some (.slice (some ⟨b, o, none⟩) N c) := fun s => keep1 s.ok HR.out.box.k0
              have j1 : ∀ s : (Wd (Below wr.heap.size wr)), s.val.cell? ⟨q, 1, none⟩ = some (.int .i64 J) := fun s => keep1 s.ok HR.out.box.k1
              have j2 : ∀ s : (Wd (Below wr.heap.size wr)), s.val.cell? ⟨b, o + (J + m), none⟩ = some (.int .u8 ((at' bs (J + m) : Nat) : Int)) := fun s => keep1 s.ok HC2.out
              refine wp_region_in (Below wr.heap.size wr) (by kernel_rfl) (by kernel_rfl) S0.out ?_
              repeat (go_big_quiet_step (fail))
              clear j0 j1 j2
              refine wpQuiet_nil ?_
              rintro y ⟨⟨_, hby⟩, rfl⟩
              have HR := Lib.hid (HR.out.next hby)
              clear hby S0 NE
              clear HC2 hjn hw5 hw6 hmn hv1 hv2
              go_wp2_with (fail)
              rw [HJM.out.2]
              go_roundw
              case rel => exact ⟨m + 1, by rw [← HNX.out]; congr 1; split <;> omega, rfl, Lib.hid ⟨HJM.out.1, HR.out⟩⟩
              case measure => have := HJM.out.1; show K - (m + 1) < K - m; omega
            · obtain rfl : m = K := by have := hp.out.1; omega
              clear hlt hp
              have hjn : (J : Int) < N := by have := HN.out; have := HE.out; have := HK.out; omega
              have HC2 := Lib.hid (show wr.cell? ⟨b, o + J, none⟩ = some (.int .u8 ((at' bs J : Nat) : Int)) by
                obtain ⟨b0, o0, e0, hc2⟩ := HBB.out.cellAt (j := J) (by omega)
                injection e0 with e0
                injection e0 with e1 e2
                subst e1 e2
                exact HR.out.kept.cell HNQ.out hc2)
              have HMZ := Lib.hid (Nat.min_le_left (num 0 (slc bs J m)) 1099511627776)
              have HMY := Lib.hid (show min (num 0 (slc bs J m)) 1099511627776 = num 0 (slc bs J m) ∨ min (num 0 (slc bs J m)) 1099511627776 = 1099511627776 by omega)
              have HS11 := Lib.hid (fun h2 => hd_l11b HS.out (by rw [hJ]; exact HE.out) h2)
              have HS12 := Lib.hid (fun h2 h3 => hd_l12 HS.out (by rw [hJ]; exact HE.out) h2 h3)
              have HSOK := Lib.hid (fun h2 h3 => hd_lok HS.out (by rw [hJ]; exact HE.out) h2 h3)
              rw [hJ] at HS11 HS12 HSOK
              generalize min (num 0 (slc bs J m)) 1099511627776 = A0 at *
              generalize num 0 (slc bs J m) = Z at *
              have hw7 : wrap64 ((J : Int) + m) = ((J + m : Nat) : Int) := by have := HN.out; have := HE.out; unfold wrap64; omega
              have HIP := Lib.hid (show i + (1 + m) = J + m by omega)
              have HP := Lib.hid HE.out
              generalize J + m = P at *
              generalize hX0 : ((at' bs J : Nat) : Int) = X0 at *
              go_upto_region 22 with (fail)
              have s0 : Below wr.heap.size wr wr.drew := (Below.refl _ _).drew
              have NE : Nonempty (Wd (Below wr.heap.size wr)) := ⟨⟨_, s0⟩⟩
              have S0 := Lib.hid s0
              clear s0
              have j0 : ∀ s : (Wd (Below wr.heap.size wr)), s.val.cell? ⟨q, 0, none⟩ = some (.slice (some ⟨b, o, none⟩) N c) := fun s => keep1 s.ok HR.out.box.k0
              have j1 : ∀ s : (Wd (Below wr.heap.size wr)), s.val.cell? ⟨q, 1, none⟩ = some (.int .i64 J) := fun s => keep1 s.ok HR.out.box.k1
              have j2 : ∀ s : (Wd (Below wr.heap.size wr)), s.val.cell? ⟨b, o + J, none⟩ = some (.int .u8 X0) := fun s => keep1 s.ok HC2.out
              refine wp_region_in (Below wr.heap.size wr) (by kernel_rfl) (by kernel_rfl) S0.out ?_
              repeat (go_big_quiet_step (fail))
              clear j0 j1 j2
              refine wpQuiet_nil ?_
              rintro y ⟨⟨_, hby⟩, rfl⟩
              have HR := Lib.hid (HR.out.next hby)
              clear hby S0 NE
              clear HC2 hjn
              obtain ⟨k0, k1, k2, k3, f0, f1, f2, f3⟩ := HR.out.box
              go_upto_region 24 with (fail)
              have HR := Lib.hid (HR.out.put HN.out.2.2.2.2.1 P)
              clear k0 k1 k2 k3 f0 f1 f2 f3 hw7
              generalize World.setCell _ ⟨q, 1, none⟩ (.int .i64 P) = W4 at *
              obtain ⟨k0, k1, k2, k3, f0, f1, f2, f3⟩ := HR.out.box
              have hw8 : wrap64 ((e : Int) - P) = ((e - P : Nat) : Int) := by have := HN.out; have := HP.out; unfold wrap64; omega
              by_cases hbig : e < P + Z
              · have HO := Lib.hid (HS11.out hbig)
                have hgt : ((e - P : Nat) : Int) < A0 := by have := HN.out; have := HP.out; have := HMZ.out; have := HMY.out; omega
                clear hbig
                go_wp2_with (go_at_call 61; (with_reducible refine (rdr_fail HR.out HN.out.2.2.2.2.1 i 11).mono ?_); rintro r y1 ⟨rfl, hb⟩; obtain ⟨g0, g1, g2, e0, e1, e2⟩ := hb.out.2.1; unfold zIt)
                have Y := (Box3.mk g0 g1 g2 e0 e1 e2).put (.bool false) (.slice none 0 0) (.slice none 0 0)
                refine bodyPost_ret (v := zIt) (by simp [results, Tryd.results60, go_sem, zIt, Y.k0, Y.k1, Y.k2]) rfl ⟨?_, kept_put3 hb.out.2.2 (.inr (Nat.le_refl _)) _ _ _⟩
                rw [one_bad HN.out.2.2.2.2.2.2 HO.out]
                exact ritOut_bad (by decide) (hb.out.1.put_other HNE.out _ _ _)
              · have hA : A0 = Z := by have := HN.out; have := HP.out; have := HMZ.out; have := HMY.out; omega
                subst hA
                have hgt : decide (e - P < A0) = false := by have := HP.out; simp; omega
                have HB := Lib.hid hbig
                clear hbig
                by_cases hz : at' bs J = 0
                · have hx0 : (X0 == 0) = true := by rw [← hX0, hz]; rfl
                  have HO := Lib.hid (HS12.out HB.out (.inl hz))
                  clear hz
                  go_wp2_with (go_at_call 61; (with_reducible refine (rdr_fail HR.out HN.out.2.2.2.2.1 i 12).mono ?_); rintro r y1 ⟨rfl, hb⟩; obtain ⟨g0, g1, g2, e0, e1, e2⟩ := hb.out.2.1; unfold zIt)
                  have Y := (Box3.mk g0 g1 g2 e0 e1 e2).put (.bool false) (.slice none 0 0) (.slice none 0 0)
                  refine bodyPost_ret (v := zIt) (by simp [results, Tryd.results60, go_sem, zIt, Y.k0, Y.k1, Y.k2]) rfl ⟨?_, kept_put3 hb.out.2.2 (.inr (Nat.le_refl _)) _ _ _⟩
                  rw [one_bad HN.out.2.2.2.2.2.2 HO.out]
                  exact ritOut_bad (by decide) (hb.out.1.put_other HNE.out _ _ _)
                · have hx0 : (X0 == 0) = false := by rw [← hX0]; exact beq_eq_false_iff_ne.2 (fun e => hz (Int.ofNat_inj.1 e))
                  have HZ := Lib.hid hz
                  clear hz
                  by_cases h56 : A0 < 56
                  · have h5 : (A0 : Int) < 56 := by omega
                    have HO := Lib.hid (HS12.out HB.out (.inr h56))
                    clear h56
                    go_wp2_with (go_at_call 61; (with_reducible refine (rdr_fail HR.out HN.out.2.2.2.2.1 i 12).mono ?_); rintro r y1 ⟨rfl, hb⟩; obtain ⟨g0, g1, g2, e0, e1, e2⟩ := hb.out.2.1; unfold zIt)
                    have Y := (Box3.mk g0 g1 g2 e0 e1 e2).put (.bool false) (.slice none 0 0) (.slice none 0 0)
                    refine bodyPost_ret (v := zIt) (by simp [results, Tryd.results60, go_sem, zIt, Y.k0, Y.k1, Y.k2]) rfl ⟨?_, kept_put3 hb.out.2.2 (.inr (Nat.le_refl _)) _ _ _⟩
                    rw [one_bad HN.out.2.2.2.2.2.2 HO.out]
                    exact ritOut_bad (by decide) (hb.out.1.put_other HNE.out _ _ _)
                  · have h5 : decide ((A0 : Int) < 56) = false := by simp; omega
                    have HO := Lib.hid (HSOK.out HB.out (by rintro (h | h); exact HZ.out h; exact h56 h))
                    clear h56
                    go_wp2_with (fail)
                    go_meet
                    case rel => exact ⟨1 + m, A0, rfl, Lib.hid ⟨HO.out, by rw [HIP.out]; exact HR.out⟩⟩
  · go_cut [10] from 11 (fun v y => ∃ s m : Nat, v = .int .i64 m ∧ Hid (hd bs i e = .ok false s m ∧ Rdr w q (.slice (some ⟨b, o, none⟩) N c) (i + s) D y))
    case rest =>
      obtain ⟨s, m, rfl, hp⟩ := hcut
      have hg := hd_ok (show i < e by have := HN.out; omega) (show e ≤ bs.length by rw [← HBB.out.1]; exact HN.out.2.1) hp.out.1
      have HO := Lib.hid (one_text (f := f) HN.out.2.2.2.2.2.2 hp.out.1)
      have HR := Lib.hid hp.out.2
      have hM : i + s + m ≤ N := by have := HN.out; omega
      clear hp
      generalize i + s = P at *
      have HMM := Lib.hid (show wrap64 ((P : Int) + m) = ((P + m : Nat) : Int) by have := HN.out; unfold wrap64; omega)
      have HS1 := Lib.hid (HBB.out.kept HR.out.kept HNQ.out)
      have HMN := Lib.hid (show (P + m : Nat) - P = m by omega)
      have q1 : (P : Int) ≤ ((P + m : Nat) : Int) := by omega
      have q2 : ((P + m : Nat) : Int) ≤ c := by have := HBB.out.2.1; omega
      have hw9 := HMM.out
      have HMP := Lib.hid (rfl : P + m = P + m)
      have HMQ := Lib.hid hM
      clear hg hM
      generalize hMd : P + m = M at *
      obtain ⟨k0, k1, k2, k3, f0, f1, f2, f3⟩ := HR.out.box
      go_upto_region 34 with (fail)
      clear k0 k1 k2 k3 f0 f1 f2 f3 hw9
      rw [HMM.out]
      have HR := Lib.hid (HR.out.next (Below.refl _ _).drew)
      have HS1 := Lib.hid (HS1.out.keep (keep_below ((Below.refl _ _).drew)))
      have h0 : (fun y : World => y.cell? ⟨q, 0, none⟩ = some (.slice (some ⟨b, o, none⟩) N c) ∧ y.cell? ⟨q, 1, none⟩ = some (.int .i64 P)) wc.drew := ⟨HR.out.box.k0, HR.out.box.k1⟩
      refine wp_region_og (fun y : World => y.cell? ⟨q, 0, none⟩ = some (.slice (some ⟨b, o, none⟩) N c) ∧ y.cell? ⟨q, 1, none⟩ = some (.int .i64 P)) (.take 1 (.take 2 (.take 3 (.take 4 (.take 5 (.take 6 (.take 7 (.take 8 (.take 9 (.take 10 (.one 0 (.one 11 (.one 12 .done))))))))))))) (by kernel_rfl) (by kernel_rfl) h0 ?_
      generalize wc.drew = w2 at *
      clear h0
      refine og_tk (some 178) (.pointer (some ⟨q, 0, none⟩)) rfl rfl (by go_simp) (fun _ _ => by simp [execOp, go_sem]) ?_
      refine og_tk (some 179) (.pointer (some ⟨q, 0, none⟩)) rfl rfl (by go_simp) (fun _ _ => by simp [execOp, go_sem]) ?_
      refine og_tk (some 180) (.pointer (some ⟨q, 0, none⟩)) rfl rfl (by go_simp) (fun _ _ => by simp [execOp, go_sem]) ?_
      refine og_tk (some 181) (.slice (some ⟨b, o, none⟩) N c) rfl rfl (by go_simp) (fun y hy => by simp [execOp, go_sem, hy.1]) ?_
      refine og_tk (some 182) (.pointer (some ⟨q, 0, none⟩)) rfl rfl (by go_simp) (fun _ _ => by simp [execOp, go_sem]) ?_
      refine og_tk (some 183) (.pointer (some ⟨q, 0, none⟩)) rfl rfl (by go_simp) (fun _ _ => by simp [execOp, go_sem]) ?_
      refine og_tk (some 184) (.pointer (some ⟨q, 1, none⟩)) rfl rfl (by go_simp) (fun _ _ => by simp [execOp, go_sem]) ?_
      refine og_tk (some 185) (.int .i64 P) rfl rfl (by go_simp) (fun y hy => by simp [execOp, go_sem, hy.2]) ?_
      refine og_tk (some 186) (.int .i64 M) rfl rfl (by go_simp) (fun _ _ => by simp [execOp, go_sem]) ?_
      simp only [Act.put, List.setIfInBounds_toArray, List.set_cons_zero, List.set_cons_succ]
      have HWZ := Lib.hid (show w.heap.size < w2.heap.size ∧ q < w2.heap.size from ⟨inHeap HR.out.res.k0, inHeap HR.out.box.k0⟩)
      by_cases hcp : c = P
      · have hMP : M = P := by have := HMN.out; omega
        subst hMP
        subst hcp
        refine og_tk (some 187) (.slice (some ⟨b, o, none⟩) 0 0) rfl rfl (by go_simp) (fun y hy => by simp [execOp, go_sem, q1, q2]) ?_
        simp only [Act.put, List.setIfInBounds_toArray, List.set_cons_zero, List.set_cons_succ]
        refine og_f rfl (by go_simp) fun K hK => ?_
        go_simp
        have HR1 := HR.out.next (ba _ (.cells #[] 5))
        refine hK _ _ ⟨HR1.box.k0, HR1.box.k1⟩ ?_
        clear hK K
        have HR := Lib.hid HR1
        have HS1 := Lib.hid (HS1.out.keep (keep_below (ba _ (.cells #[] 5))))
        have HO0 : Hid (Own (w2.alloc (.cells #[] 5)) w2.heap.size (.slice (some ⟨w2.heap.size, 0, none⟩) 0 0) []) := Lib.hid (own_empty w2)
        have HZ2 : Hid (w2.heap.size ≤ (w2.alloc (.cells #[] 5)).heap.size) := Lib.hid (by simp)
        clear HR1
        generalize w2.alloc (.cells #[] 5) = w3 at *
        refine og_f rfl (by go_simp) fun K hK => ?_
        refine wp_appB (some 188) (.tmp 177) (.tmp 187) rfl rfl w2.heap.size _ [] rfl HO0.out (some ⟨b, o, none⟩) 0 0 (slc bs c m) rfl (by have := sub_end HS1.out (show c = c from rfl) (show c + m = c from hMd) HMQ.out; rwa [Nat.sub_self] at this) (by have := slc_le bs c m; have := HN.out; have := HMQ.out; have := HMN.out; simp; omega) HZ2.out ?_
        intro V5 y5 hO5 hg hat
        rw [List.nil_append] at hO5
        obtain ⟨a5, c5, rfl, hB5⟩ := hO5.isBs
        have HR5 := Lib.hid (HR.out.grownR hg HWZ.out (fun k hk => by cases hk; exact Nat.le_refl _))
        refine hK _ _ ⟨HR5.out.box.k0, HR5.out.box.k1⟩ ?_
        simp only [Act.put, List.setIfInBounds_toArray, List.set_cons_zero, List.set_cons_succ]
        have HB5 := Lib.hid hB5
        clear hK K hg hat hO5 hB5
        refine og_f rfl (by go_simp) fun K hK => ?_
        go_simp
        refine hK _ _ ⟨HR5.out.box.k0, HR5.out.box.k1⟩ ?_
        clear hK K
        refine og_done (NoPanic.normal ?_)
        obtain ⟨k0, k1, k2, k3, f0, f1, f2, f3⟩ := HR5.out.box
        obtain ⟨g0, g1, g2, e0, e1, e2⟩ := (HR5.out.put HN.out.2.2.2.2.1 c).res
        go_wp2_with (fail)
        have Y := (Box3.mk g0 g1 g2 e0 e1 e2).put (.bool false) (.slice a5 (slc bs c m).length c5) (.slice none 0 0)
        refine bodyPost_ret (v := .agg #[.bool false, .slice a5 (slc bs c m).length c5, .slice none 0 0]) (by simp [results, Tryd.results60, go_sem, Y.k0, Y.k1, Y.k2]) rfl ⟨?_, kept_put3 (HR5.out.put HN.out.2.2.2.2.1 c).kept (.inr (Nat.le_refl _)) _ _ _⟩
        rw [HO.out]
        exact ⟨false, _, .nil, a5, _, c5, none, 0, 0, c, 0, D, rfl, HB5.out.keep (up_end HWZ.out.1 HWZ.out.2 _ _ _ _ _), noK _, (HR5.out.put HN.out.2.2.2.2.1 c).box.put_other HNE.out _ _ _, .inl ⟨rfl, rfl, rfl⟩⟩
      · refine og_tk (some 187) (.slice (some ⟨b, o + P, none⟩) (M - P) (c - P)) rfl rfl (by go_simp) (fun y hy => by simp [execOp, go_sem, q1, q2, hcp]) ?_
        simp only [Act.put, List.setIfInBounds_toArray, List.set_cons_zero, List.set_cons_succ]
        refine og_f rfl (by go_simp) fun K hK => ?_
        go_simp
        have HR1 := HR.out.next (ba _ (.cells #[] 5))
        refine hK _ _ ⟨HR1.box.k0, HR1.box.k1⟩ ?_
        clear hK K
        have HR := Lib.hid HR1
        have HS1 := Lib.hid (HS1.out.keep (keep_below (ba _ (.cells #[] 5))))
        have HO0 : Hid (Own (w2.alloc (.cells #[] 5)) w2.heap.size (.slice (some ⟨w2.heap.size, 0, none⟩) 0 0) []) := Lib.hid (own_empty w2)
        have HZ2 : Hid (w2.heap.size ≤ (w2.alloc (.cells #[] 5)).heap.size) := Lib.hid (by simp)
        clear HR1
        generalize w2.alloc (.cells #[] 5) = w3 at *
        refine og_f rfl (by go_simp) fun K hK => ?_
        refine wp_appB (some 188) (.tmp 177) (.tmp 187) rfl rfl w2.heap.size _ [] rfl HO0.out (some ⟨b, o + P, none⟩) (M - P) (c - P) (slc bs P m) rfl (sub_in HS1.out hMd HMQ.out) (by have := slc_le bs P m; have := HN.out; have := HMQ.out; have := HMN.out; simp; omega) HZ2.out ?_
        intro V5 y5 hO5 hg hat
        rw [List.nil_append] at hO5
        obtain ⟨a5, c5, rfl, hB5⟩ := hO5.isBs
        have HR5 := Lib.hid (HR.out.grownR hg HWZ.out (fun k hk => by cases hk; exact Nat.le_refl _))
        refine hK _ _ ⟨HR5.out.box.k0, HR5.out.box.k1⟩ ?_
        simp only [Act.put, List.setIfInBounds_toArray, List.set_cons_zero, List.set_cons_succ]
        have HB5 := Lib.hid hB5
        clear hK K hg hat hO5 hB5
        refine og_f rfl (by go_simp) fun K hK => ?_
        go_simp
        refine hK _ _ ⟨HR5.out.box.k0, HR5.out.box.k1⟩ ?_
        clear hK K
        refine og_done (NoPanic.normal ?_)
        obtain ⟨k0, k1, k2, k3, f0, f1, f2, f3⟩ := HR5.out.box
        obtain ⟨g0, g1, g2, e0, e1, e2⟩ := (HR5.out.put HN.out.2.2.2.2.1 M).res
        go_wp2_with (fail)
        have Y := (Box3.mk g0 g1 g2 e0 e1 e2).put (.bool false) (.slice a5 (slc bs P m).length c5) (.slice none 0 0)
        refine bodyPost_ret (v := .agg #[.bool false, .slice a5 (slc bs P m).length c5, .slice none 0 0]) (by simp [results, Tryd.results60, go_sem, Y.k0, Y.k1, Y.k2]) rfl ⟨?_, kept_put3 (HR5.out.put HN.out.2.2.2.2.1 M).kept (.inr (Nat.le_refl _)) _ _ _⟩
        rw [HO.out]
        exact ⟨false, _, .nil, a5, _, c5, none, 0, 0, M, 0, D, rfl, HB5.out.keep (up_end HWZ.out.1 HWZ.out.2 _ _ _ _ _), noK _, (HR5.out.put HN.out.2.2.2.2.1 M).box.put_other HNE.out _ _ _, .inl ⟨rfl, rfl, rfl⟩⟩
    case first =>
      have HQL := Lib.hid (show ¬ q = w.heap.size from HNE.out)
      by_cases h56 : n < 56
      · have h56d : decide ((56 : Int) ≤ n) = false := by simp; omega
        rw [h56d]
        have hw2 : wrap64 ((e : Int) - J) = ((e - J : Nat) : Int) := by have := HN.out; unfold wrap64; omega
        obtain ⟨k0, k1, k2, k3, f0, f1, f2, f3⟩ := HR.out.box
        by_cases hen : e < J + n
        · have hgt : ((e - J : Nat) : Int) < n := by have := HN.out; omega
          have HO := Lib.hid (show hd bs i e = .bad 11 from hd_s11 HN.out.2.2.2.2.2.1 h56 (by omega))
          clear h56 hen
          go_wp2_with (go_at_call 61; (with_reducible refine (rdr_fail HR.out HN.out.2.2.2.2.1 i 11).mono ?_); rintro r y1 ⟨rfl, hb⟩; obtain ⟨g0, g1, g2, e0, e1, e2⟩ := hb.out.2.1; unfold zIt)
          have Y := (Box3.mk g0 g1 g2 e0 e1 e2).put (.bool false) (.slice none 0 0) (.slice none 0 0)
          refine bodyPost_ret (v := zIt) (by simp [results, Tryd.results60, go_sem, zIt, Y.k0, Y.k1, Y.k2]) rfl ⟨?_, kept_put3 hb.out.2.2 (.inr (Nat.le_refl _)) _ _ _⟩
          rw [one_bad HN.out.2.2.2.2.2.2 HO.out]
          exact ritOut_bad (by decide) (hb.out.1.put_other HNE.out _ _ _)
        · have hgt : decide (e - J < n) = false := by have := HN.out; simp; omega
          have HE := Lib.hid hen
          have H6 := Lib.hid h56
          clear h56 hen
          go_upto_region 30 with (fail)
          clear k0 k1 k2 k3 f0 f1 f2 f3
          by_cases h1n : n = 1
          · subst h1n
            have HC2 := Lib.hid (show W2.cell? ⟨b, o + J, none⟩ = some (.int .u8 ((at' bs J : Nat) : Int)) by
              obtain ⟨b0, o0, e0, hc2⟩ := HBB.out.cellAt (j := J) (by have := HN.out; have := HE.out; omega)
              injection e0 with e0
              injection e0 with e1 e2
              subst e1 e2
              exact HR.out.kept.cell HNQ.out hc2)
            have hjn : (J : Int) < N := by have := HN.out; have := HE.out; omega
            by_cases hlow : at' bs J < 128
            · have hli : ((at' bs J : Nat) : Int) < 128 := by omega
              have HO := Lib.hid (show hd bs i e = .bad 12 from hd_s12 HN.out.2.2.2.2.2.1 (by have := HE.out; omega) (by rw [hJ]; exact hlow))
              clear hlow
              have s0 : Below W2.heap.size W2 W2.drew := (Below.refl _ _).drew
              have NE : Nonempty (Wd (Below W2.heap.size W2)) := ⟨⟨_, s0⟩⟩
              have S0 := Lib.hid s0
              clear s0
              have j0 : ∀ s : (Wd (Below W2.heap.size W2)), s.val.cell? ⟨q, 0, none⟩ = some (.slice (some ⟨b, o, none⟩) N c) := fun s => keep1 s.ok HR.out.box.k0
              have j1 : ∀ s : (Wd (Below W2.heap.size W2)), s.val.cell? ⟨q, 1, none⟩ = some (.int .i64 J) := fun s => keep1 s.ok HR.out.box.k1
              have j2 : ∀ s : (Wd (Below W2.heap.size W2)), s.val.cell? ⟨b, o + J, none⟩ = some (.int .u8 ((at' bs J : Nat) : Int)) := fun s => keep1 s.ok HC2.out
              refine wp_region_in (Below W2.heap.size W2) (by kernel_rfl) (by kernel_rfl) S0.out ?_
              repeat (go_big_quiet_step (fail))
              clear j0 j1 j2
              refine wpQuiet_nil ?_
              rintro y ⟨⟨_, hby⟩, rfl⟩
              have HR := Lib.hid (HR.out.next hby)
              clear hby S0 NE
              clear HC2 hjn hli
              go_wp2_with (go_at_call 61; (with_reducible refine (rdr_fail HR.out HN.out.2.2.2.2.1 i 12).mono ?_); rintro r y1 ⟨rfl, hb⟩; obtain ⟨g0, g1, g2, e0, e1, e2⟩ := hb.out.2.1; unfold zIt)
              have Y := (Box3.mk g0 g1 g2 e0 e1 e2).put (.bool false) (.slice none 0 0) (.slice none 0 0)
              refine bodyPost_ret (v := zIt) (by simp [results, Tryd.results60, go_sem, zIt, Y.k0, Y.k1, Y.k2]) rfl ⟨?_, kept_put3 hb.out.2.2 (.inr (Nat.le_refl _)) _ _ _⟩
              rw [one_bad HN.out.2.2.2.2.2.2 HO.out]
              exact ritOut_bad (by decide) (hb.out.1.put_other HNE.out _ _ _)
            · have hli : decide (((at' bs J : Nat) : Int) < 128) = false := by simp; omega
              have HO := Lib.hid (show hd bs i e = .ok false 1 1 from hd_sok HN.out.2.2.2.2.2.1 H6.out (by have := HE.out; omega) (.inr (.inr (by rw [hJ]; exact hlow))))
              clear hlow
              have s0 : Below W2.heap.size W2 W2.drew := (Below.refl _ _).drew
              have NE : Nonempty (Wd (Below W2.heap.size W2)) := ⟨⟨_, s0⟩⟩
              have S0 := Lib.hid s0
              clear s0
              have j0 : ∀ s : (Wd (Below W2.heap.size W2)), s.val.cell? ⟨q, 0, none⟩ = some (.slice (some ⟨b, o, none⟩) N c) := fun s => keep1 s.ok HR.out.box.k0
              have j1 : ∀ s : (Wd (Below W2.heap.size W2)), s.val.cell? ⟨q, 1, none⟩ = some (.int .i64 J) := fun s => keep1 s.ok HR.out.box.k1
              have j2 : ∀ s : (Wd (Below W2.heap.size W2)), s.val.cell? ⟨b, o + J, none⟩ = some (.int .u8 ((at' bs J : Nat) : Int)) := fun s => keep1 s.ok HC2.out
              refine wp_region_in (Below W2.heap.size W2) (by kernel_rfl) (by kernel_rfl) S0.out ?_
              repeat (go_big_quiet_step (fail))
              clear j0 j1 j2
              refine wpQuiet_nil ?_
              rintro y ⟨⟨_, hby⟩, rfl⟩
              have HR := Lib.hid (HR.out.next hby)
              clear hby S0 NE
              clear HC2 hjn hli
              go_wp2_with (fail)
              go_meet
              case rel => exact ⟨1, 1, rfl, Lib.hid ⟨HO.out, by rw [hJ]; exact HR.out⟩⟩
          · have hn1 : ((n : Int) == 1) = false := beq_eq_false_iff_ne.2 (fun e => h1n (Int.ofNat_inj.1 e))
            have HO := Lib.hid (show hd bs i e = .ok false 1 n from hd_sok HN.out.2.2.2.2.2.1 H6.out (by have := HE.out; omega) (.inr (.inl h1n)))
            clear h1n
            have s0 : Below W2.heap.size W2 W2.drew := (Below.refl _ _).drew
            have NE : Nonempty (Wd (Below W2.heap.size W2)) := ⟨⟨_, s0⟩⟩
            have S0 := Lib.hid s0
            clear s0
            refine wp_region_in (Below W2.heap.size W2) (by kernel_rfl) (by kernel_rfl) S0.out ?_
            repeat (go_big_quiet_step (fail))
            refine wpQuiet_nil ?_
            rintro y ⟨⟨_, hby⟩, rfl⟩
            have HR := Lib.hid (HR.out.next hby)
            clear hby S0 NE
            go_wp2_with (fail)
            go_meet
            case rel => exact ⟨1, n, rfl, Lib.hid ⟨HO.out, by rw [hJ]; exact HR.out⟩⟩
      · have HH56 := Lib.hid h56
        have h56d : decide ((56 : Int) ≤ n) = true := by simp; omega
        rw [h56d]
        have hk : wrap64 ((n : Int) - 55) = ((n - 55 : Nat) : Int) := by have := HN.out; unfold wrap64; omega
        have hw2 : wrap64 ((e : Int) - J) = ((e - J : Nat) : Int) := by have := HN.out; unfold wrap64; omega
        have HK := Lib.hid (show 1 ≤ n - 55 ∧ n - 55 ≤ 8 by have := HN.out; omega)
        have HS := Lib.hid (hd_long (e := e) HN.out.2.2.2.2.2.1 (by omega) HN.out.2.2.2.1)
        clear h56
        generalize n - 55 = K at *
        obtain ⟨k0, k1, k2, k3, f0, f1, f2, f3⟩ := HR.out.box
        by_cases hen : e < J + K
        · have hgt : ((e - J : Nat) : Int) < K := by have := HN.out; omega
          have HO := Lib.hid (show hd bs i e = .bad 11 from hd_l11 HS.out (by rw [hJ]; exact hen))
          clear hen
          go_wp2_with (go_at_call 61; (with_reducible refine (rdr_fail HR.out HN.out.2.2.2.2.1 i 11).mono ?_); rintro r y1 ⟨rfl, hb⟩; obtain ⟨g0, g1, g2, e0, e1, e2⟩ := hb.out.2.1; unfold zIt)
          have Y := (Box3.mk g0 g1 g2 e0 e1 e2).put (.bool false) (.slice none 0 0) (.slice none 0 0)
          refine bodyPost_ret (v := zIt) (by simp [results, Tryd.results60, go_sem, zIt, Y.k0, Y.k1, Y.k2]) rfl ⟨?_, kept_put3 hb.out.2.2 (.inr (Nat.le_refl _)) _ _ _⟩
          rw [one_bad HN.out.2.2.2.2.2.2 HO.out]
          exact ritOut_bad (by decide) (hb.out.1.put_other HNE.out _ _ _)
        · have hgt : decide (e - J < K) = false := by have := HN.out; simp; omega
          have HE := Lib.hid hen
          clear hen
          go_wp2_with (fail)
          clear k0 k1 k2 k3 f0 f1 f2 f3 hgt hw2
          go_loopw [10, 12] (fun v t y => ∃ m : Nat, v = .int .i64 ((min (num 0 (slc bs J m)) 1099511627776 : Nat) : Int) ∧ t = .int .i64 m ∧ Hid (m ≤ K ∧ Rdr w q (.slice (some ⟨b, o, none⟩) N c) J D y)) (fun _ t _ => K - (intOf t).toNat)
          case atStart => exact ⟨0, rfl, rfl, Lib.hid ⟨Nat.zero_le _, HR.out⟩⟩
          case round =>
            obtain ⟨m, rfl, rfl, hp⟩ := hrel
            have HR := Lib.hid hp.out.2
            by_cases hlt : (m : Int) < (K : Int)
            · have HJM := Lib.hid (show m < K ∧ wrap64 ((m : Int) + 1) = ((m + 1 : Nat) : Int) by have := HK.out; refine ⟨by omega, ?_⟩; unfold wrap64; omega)
              have HB1 := Lib.hid (show J + m < N by have := HN.out; have := HE.out; omega)
              have HNX := Lib.hid (show min (min (num 0 (slc bs J m)) 1099511627776 * 256 + at' bs (J + m)) 1099511627776 = min (num 0 (slc bs J (m + 1))) 1099511627776 by rw [min_step, num_next (by rw [← HBB.out.1]; exact HB1.out)])
              obtain ⟨hv1, hv2⟩ := wrapmin (num 0 (slc bs J m)) (at' bs (J + m)) (at_lt _ _)
              have HC2 := Lib.hid (show wr.cell? ⟨b, o + (J + m), none⟩ = some (.int .u8 ((at' bs (J + m) : Nat) : Int)) by
                obtain ⟨b0, o0, e0, hc2⟩ := HBB.out.cellAt (j := J + m) HB1.out
                injection e0 with e0
                injection e0 with e1 e2
                subst e1 e2
                exact HR.out.kept.cell HNQ.out hc2)
              have hjn : ((J + m : Nat) : Int) < N := by have := HB1.out; omega
              have hw5 : wrap64 ((J : Int) + m) = ((J + m : Nat) : Int) := by have := HB1.out; have := HN.out; unfold wrap64; omega
              have hw6 : wrap64 ((at' bs (J + m) : Nat) : Int) = ((at' bs (J + m) : Nat) : Int) := by have := at_lt bs (J + m); unfold wrap64; omega
              have hmn : ∀ (s : Wd (Below wr.heap.size wr)) (ts : Array TypeId) (t : TypeId), (Builtin.min_ ts t #[.int .i64 ((min (num 0 (slc bs J m)) 1099511627776 * 256 + at' bs (J + m) : Nat) : Int), .int .i64 1099511627776]).run Tryd.prog s.val = .ok (.int .i64 ((min (num 0 (slc bs J (m + 1))) 1099511627776 : Nat) : Int)) s.val := fun s ts t => by
                rw [run_min2, minc, HNX.out]
              generalize min (num 0 (slc bs J m)) 1099511627776 * 256 + at' bs (J + m) = A2 at *
              generalize min (num 0 (slc bs J m)) 1099511627776 * 256 = A1 at *
              generalize min (num 0 (slc bs J m)) 1099511627776 = A0 at *
              clear hp
              go_upto_region 21 with (fail)
              have s0 : Below wr.heap.size wr wr.drew := (Below.refl _ _).drew
              have NE : Nonempty (Wd (Below wr.heap.size wr)) := ⟨⟨_, s0⟩⟩
              have S0 := Lib.hid s0
              clear s0
              have j0 : ∀ s : (Wd (Below wr.heap.size wr)), s.val.cell? ⟨q, 0, none⟩ = some (.slice (some ⟨b, o, none⟩) N c) := fun s => keep1 s.ok HR.out.box.k0
              have j1 : ∀ s : (Wd (Below wr.heap.size wr)), s.val.cell? ⟨q, 1, none⟩ = some (.int .i64 J) := fun s => keep1 s.ok HR.out.box.k1
              have j2 : ∀ s : (Wd (Below wr.heap.size wr)), s.val.cell? ⟨b, o + (J + m), none⟩ = some (.int .u8 ((at' bs (J + m) : Nat) : Int)) := fun s => keep1 s.ok HC2.out
              refine wp_region_in (Below wr.heap.size wr) (by kernel_rfl) (by kernel_rfl) S0.out ?_
              repeat (go_big_quiet_step (fail))
              clear j0 j1 j2
              refine wpQuiet_nil ?_
              rintro y ⟨⟨_, hby⟩, rfl⟩
              have HR := Lib.hid (HR.out.next hby)
              clear hby S0 NE
              clear HC2 hjn hw5 hw6 hmn hv1 hv2
              go_wp2_with (fail)
              rw [HJM.out.2]
              go_roundw
              case rel => exact ⟨m + 1, by rw [← HNX.out]; congr 1; split <;> omega, rfl, Lib.hid ⟨HJM.out.1, HR.out⟩⟩
              case measure => have := HJM.out.1; show K - (m + 1) < K - m; omega
            · obtain rfl : m = K := by have := hp.out.1; omega
              clear hlt hp
              have hjn : (J : Int) < N := by have := HN.out; have := HE.out; have := HK.out; omega
              have HC2 := Lib.hid (show wr.cell? ⟨b, o + J, none⟩ = some (.int .u8 ((at' bs J : Nat) : Int)) by
                obtain ⟨b0, o0, e0, hc2⟩ := HBB.out.cellAt (j := J) (by omega)
                injection e0 with e0
                injection e0 with e1 e2
                subst e1 e2
                exact HR.out.kept.cell HNQ.out hc2)
              have HMZ := Lib.hid (Nat.min_le_left (num 0 (slc bs J m)) 1099511627776)
              have HMY := Lib.hid (show min (num 0 (slc bs J m)) 1099511627776 = num 0 (slc bs J m) ∨ min (num 0 (slc bs J m)) 1099511627776 = 1099511627776 by omega)
              have HS11 := Lib.hid (fun h2 => hd_l11b HS.out (by rw [hJ]; exact HE.out) h2)
              have HS12 := Lib.hid (fun h2 h3 => hd_l12 HS.out (by rw [hJ]; exact HE.out) h2 h3)
              have HSOK := Lib.hid (fun h2 h3 => hd_lok HS.out (by rw [hJ]; exact HE.out) h2 h3)
              rw [hJ] at HS11 HS12 HSOK
              generalize min (num 0 (slc bs J m)) 1099511627776 = A0 at *
              generalize num 0 (slc bs J m) = Z at *
              have hw7 : wrap64 ((J : Int) + m) = ((J + m : Nat) : Int) := by have := HN.out; have := HE.out; unfold wrap64; omega
              have HIP := Lib.hid (show i + (1 + m) = J + m by omega)
              have HP := Lib.hid HE.out
              generalize J + m = P at *
              generalize hX0 : ((at' bs J : Nat) : Int) = X0 at *
              go_upto_region 22 with (fail)
              have s0 : Below wr.heap.size wr wr.drew := (Below.refl _ _).drew
              have NE : Nonempty (Wd (Below wr.heap.size wr)) := ⟨⟨_, s0⟩⟩
              have S0 := Lib.hid s0
              clear s0
              have j0 : ∀ s : (Wd (Below wr.heap.size wr)), s.val.cell? ⟨q, 0, none⟩ = some (.slice (some ⟨b, o, none⟩) N c) := fun s => keep1 s.ok HR.out.box.k0
              have j1 : ∀ s : (Wd (Below wr.heap.size wr)), s.val.cell? ⟨q, 1, none⟩ = some (.int .i64 J) := fun s => keep1 s.ok HR.out.box.k1
              have j2 : ∀ s : (Wd (Below wr.heap.size wr)), s.val.cell? ⟨b, o + J, none⟩ = some (.int .u8 X0) := fun s => keep1 s.ok HC2.out
              refine wp_region_in (Below wr.heap.size wr) (by kernel_rfl) (by kernel_rfl) S0.out ?_
              repeat (go_big_quiet_step (fail))
              clear j0 j1 j2
              refine wpQuiet_nil ?_
              rintro y ⟨⟨_, hby⟩, rfl⟩
              have HR := Lib.hid (HR.out.next hby)
              clear hby S0 NE
              clear HC2 hjn
              obtain ⟨k0, k1, k2, k3, f0, f1, f2, f3⟩ := HR.out.box
              go_upto_region 24 with (fail)
              have HR := Lib.hid (HR.out.put HN.out.2.2.2.2.1 P)
              clear k0 k1 k2 k3 f0 f1 f2 f3 hw7
              generalize World.setCell _ ⟨q, 1, none⟩ (.int .i64 P) = W4 at *
              obtain ⟨k0, k1, k2, k3, f0, f1, f2, f3⟩ := HR.out.box
              have hw8 : wrap64 ((e : Int) - P) = ((e - P : Nat) : Int) := by have := HN.out; have := HP.out; unfold wrap64; omega
              by_cases hbig : e < P + Z
              · have HO := Lib.hid (HS11.out hbig)
                have hgt : ((e - P : Nat) : Int) < A0 := by have := HN.out; have := HP.out; have := HMZ.out; have := HMY.out; omega
                clear hbig
                go_wp2_with (go_at_call 61; (with_reducible refine (rdr_fail HR.out HN.out.2.2.2.2.1 i 11).mono ?_); rintro r y1 ⟨rfl, hb⟩; obtain ⟨g0, g1, g2, e0, e1, e2⟩ := hb.out.2.1; unfold zIt)
                have Y := (Box3.mk g0 g1 g2 e0 e1 e2).put (.bool false) (.slice none 0 0) (.slice none 0 0)
                refine bodyPost_ret (v := zIt) (by simp [results, Tryd.results60, go_sem, zIt, Y.k0, Y.k1, Y.k2]) rfl ⟨?_, kept_put3 hb.out.2.2 (.inr (Nat.le_refl _)) _ _ _⟩
                rw [one_bad HN.out.2.2.2.2.2.2 HO.out]
                exact ritOut_bad (by decide) (hb.out.1.put_other HNE.out _ _ _)
              · have hA : A0 = Z := by have := HN.out; have := HP.out; have := HMZ.out; have := HMY.out; omega
                subst hA
                have hgt : decide (e - P < A0) = false := by have := HP.out; simp; omega
                have HB := Lib.hid hbig
                clear hbig
                by_cases hz : at' bs J = 0
                · have hx0 : (X0 == 0) = true := by rw [← hX0, hz]; rfl
                  have HO := Lib.hid (HS12.out HB.out (.inl hz))
                  clear hz
                  go_wp2_with (go_at_call 61; (with_reducible refine (rdr_fail HR.out HN.out.2.2.2.2.1 i 12).mono ?_); rintro r y1 ⟨rfl, hb⟩; obtain ⟨g0, g1, g2, e0, e1, e2⟩ := hb.out.2.1; unfold zIt)
                  have Y := (Box3.mk g0 g1 g2 e0 e1 e2).put (.bool false) (.slice none 0 0) (.slice none 0 0)
                  refine bodyPost_ret (v := zIt) (by simp [results, Tryd.results60, go_sem, zIt, Y.k0, Y.k1, Y.k2]) rfl ⟨?_, kept_put3 hb.out.2.2 (.inr (Nat.le_refl _)) _ _ _⟩
                  rw [one_bad HN.out.2.2.2.2.2.2 HO.out]
                  exact ritOut_bad (by decide) (hb.out.1.put_other HNE.out _ _ _)
                · have hx0 : (X0 == 0) = false := by rw [← hX0]; exact beq_eq_false_iff_ne.2 (fun e => hz (Int.ofNat_inj.1 e))
                  have HZ := Lib.hid hz
                  clear hz
                  by_cases h56 : A0 < 56
                  · have h5 : (A0 : Int) < 56 := by omega
                    have HO := Lib.hid (HS12.out HB.out (.inr h56))
                    clear h56
                    go_wp2_with (go_at_call 61; (with_reducible refine (rdr_fail HR.out HN.out.2.2.2.2.1 i 12).mono ?_); rintro r y1 ⟨rfl, hb⟩; obtain ⟨g0, g1, g2, e0, e1, e2⟩ := hb.out.2.1; unfold zIt)
                    have Y := (Box3.mk g0 g1 g2 e0 e1 e2).put (.bool false) (.slice none 0 0) (.slice none 0 0)
                    refine bodyPost_ret (v := zIt) (by simp [results, Tryd.results60, go_sem, zIt, Y.k0, Y.k1, Y.k2]) rfl ⟨?_, kept_put3 hb.out.2.2 (.inr (Nat.le_refl _)) _ _ _⟩
                    rw [one_bad HN.out.2.2.2.2.2.2 HO.out]
                    exact ritOut_bad (by decide) (hb.out.1.put_other HNE.out _ _ _)
                  · have h5 : decide ((A0 : Int) < 56) = false := by simp; omega
                    have HO := Lib.hid (HSOK.out HB.out (by rintro (h | h); exact HZ.out h; exact h56 h))
                    clear h56
                    go_wp2_with (fail)
                    go_meet
                    case rel => exact ⟨1 + m, A0, rfl, Lib.hid ⟨HO.out, by rw [HIP.out]; exact HR.out⟩⟩
end Rl
end Go.Proofs.YtkhdamjjbjmeaaaDoor
