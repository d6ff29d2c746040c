/- Merged of Cf Cg Ea. Own work. -/
import Derived.Test.YtjfpbponjhpdhaaDoorP25
import Derived.Test.YtjfpbponjhpdhaaDoorP30
import Derived.Test.YtjfpbponjhpdhaaDoorP20
import Derived.Test.YtjfpbponjhpdhaaDoorP27
namespace Go.Proofs.YtjfpbponjhpdhaaDoor
open Go.RowKit
set_option linter.unusedVariables false
set_option linter.unusedSimpArgs false
namespace Co
open Kc Mk Vm
theorem lf_one : lfX 1 = one5 := by
  funext i
  by_cases h : i < 32
  · have e : ∀ j : Fin 32, lfX 1 j.val = one5 j.val := by decide
    exact e ⟨i, h⟩
  · unfold lfX one5
    rw [if_neg (by omega), if_neg (by omega)]
theorem sib_m0 (M : Mac) (h : ∀ i, i < 8192 → M.mem i = 0) (i : Nat) : sib (mg M) i = Mk.zero := by
  funext k
  rw [mg_m0 M h, sib_noughts]
theorem yes_m0 (M : Mac) (h : ∀ i, i < 8192 → M.mem i = 0) : same32 (fold 5 (lfX 0) (sib (mg M) 5) 13) (Mk.zero 13) = true := (same32_iff _ _).2 fun i _ => by rw [fold_m0 M h]
theorem no_m0 (M : Mac) (h : ∀ i, i < 8192 → M.mem i = 0) : same32 (fold 5 (lfX 1) (sib (mg M) 5) 13) (Mk.zero 13) = false := by
  rw [sib_m0 M h, lf_one]
  cases e : same32 (fold 5 one5 Mk.zero 13) (Mk.zero 13) with
  | false => rfl
  | true => exact absurd ((same32_iff _ _).1 e 0 (by decide)) fold_unlike
theorem same_refl (x : Hx) : same32 x x = true := (same32_iff _ _).2 fun _ _ => rfl
theorem loadPt {w : World} {q : Nat} {x y : Value} (h : Box2 w q 54 x y) : (Instr.loadAt 54 (.pointer (some ⟨q, 0, none⟩))).run Tryd.prog w = .ok (.agg #[x, y]) w := by
  refine run_loadAt_mid w q 0 _ [x, y] _ (fun j v hv => ?_) undPt rfl (by rw [infPt]; rfl)
  obtain ⟨hj, rfl⟩ := List.getElem?_eq_some_iff.1 hv
  simp only [List.length_cons, List.length_nil] at hj
  have e : j = 0 ∨ j = 1 := by omega
  rcases e with rfl | rfl
  · simpa using h.k0
  · simpa using h.k1
set_option maxHeartbeats 2000000 in
set_option maxRecDepth 100000 in
theorem fixed11_walk (w : World) (ht : Laid.KTab w) :
    Calls Tryd.prog 10 #[] w fun e w' => e = .returned (.bool true) ∧ Below w.heap.size w w' := by
  have hl := laid_walk w none none 0 0 0 0 0 0 false (fun _ => (0, 0)) (fun _ => 0) (.inl rfl) (.inl rfl) (by decide) (by decide) 0 0 (by decide) (by decide)
  rw [show ((0 : Nat) : Int) = 0 from rfl] at hl
  have HT := Lib.hid ht
  have hzm : ∀ i, (endM (layR (fun _ => 0) 0 (layC (fun _ => (0, 0)) 0 (loaded 0 fun _ => 0))) 0 0 false).mem i = 0 := fun i => by
    show (if i < 0 then 0 else 0) = 0
    split <;> rfl
  generalize endM (layR (fun _ => 0) 0 (layC (fun _ => (0, 0)) 0 (loaded 0 fun _ => 0))) 0 0 false = M at *
  have HZM := Lib.hid hzm
  have HL := Lib.hid hl
  clear hl ht hzm
  have z2 := zeroHash
  have HBH := Lib.hid (fun u : World => buildH0 u)
  generalize hz : (tab 32 fun _ => bv 0#8) = zh at *
  have HZ := Lib.hid hz
  clear hz
  have HZI : Hid ((Tryd.prog.info? 42).map (·.size) = some zh.size ∧ zh.all (·.oneCell') = true ∧ zh.size = 32) := Lib.hid ⟨by rw [← HZ.out]; exact infH _, by rw [← HZ.out]; exact one_bv _ _, by rw [← HZ.out, tab_size]⟩
  go_enter Tryd.func10, Tryd.ntmps10
  go_upto_region 2 with (go_at_call 20; (with_reducible refine HL.out.mono ?_); rintro e y1 ⟨b, r, qm, qr, he, hla⟩; obtain rfl : e = _ := he; have H1 : Hid (IsMac y1 b M ∧ Below w.heap.size w y1) := Lib.hid ⟨hla.mac, hla.below⟩; clear hla HL)
  have hz := zero_ok 13 (by decide) y1 (ktab_below HT.out H1.out.2)
  rw [show ((13 : Nat) : Int) = 13 from rfl] at hz
  have HZO := Lib.hid hz
  clear hz
  go_upto_region 3 with (first
    | (go_at_call 32; (with_reducible refine HZO.out.mono ?_); rintro e y2 ⟨he, hb⟩; obtain rfl : e = _ := he; have H2 : Hid (IsMac y2 b M ∧ Below w.heap.size w y2) := Lib.hid ⟨H1.out.1.below hb, bl H1.out.2 hb⟩; clear hb HZO)
    | ((with_reducible refine wpList_store_row (P := Tryd.prog) (w := y2.alloc (.cells zh 42)) ?_ 42 (.tmp 3) (.tmp 18) ?_ y2.heap.size (tab 32 fun i => bv (Mk.zero 13 i)) ?_ ?_ 42 zh (heap_alloc_last y2 _) (infH _) ?_ (one_bv _ _) ?_); (· exact rfl); (· exact rfl); (· exact rfl); (· exact rfl); (· rw [HZI.out.2.2, tab_size]); rw [World.setRow_alloc_new]; simp only [Act.put]))
  have H3 : Hid (IsMac (y2.alloc (.cells (tab 32 fun i => bv (Mk.zero 13 i)) 42)) b M ∧ Below w.heap.size w (y2.alloc (.cells (tab 32 fun i => bv (Mk.zero 13 i)) 42)) ∧ IsTab (y2.alloc (.cells (tab 32 fun i => bv (Mk.zero 13 i)) 42)) y2.heap.size 42 32 fun i => bv (Mk.zero 13 i)) := Lib.hid ⟨H2.out.1.below (ba _ _), bl H2.out.2 (ba _ _), IsTab.new y2 _ 32 _⟩
  clear H1 H2
  generalize y2.alloc (.cells (tab 32 fun i => bv (Mk.zero 13 i)) 42) = y3 at *
  generalize y2.heap.size = q3 at *
  have hr := Root_walk y3 b M H3.out.1 (fun i => by rw [HZM.out i]; decide) (ktab_below HT.out H3.out.2.1)
  rw [root_m0 M fun i _ => HZM.out i] at hr
  have HRO := Lib.hid hr
  clear hr
  go_upto_region 6 with (first
    | (go_at_call 12; (with_reducible refine HRO.out.mono ?_); rintro e y4 ⟨he, hb⟩; obtain rfl : e = _ := he; have H4 : Hid (IsMac y4 b M ∧ Below w.heap.size w y4 ∧ IsTab y4 q3 42 32 fun i => bv (Mk.zero 13 i)) := Lib.hid ⟨H3.out.1.below hb, bl H3.out.2.1 hb, H3.out.2.2.below hb⟩; clear hb HRO)
    | ((with_reducible refine wpList_store_row (P := Tryd.prog) (w := y4.alloc (.cells zh 42)) ?_ 42 (.tmp 5) (.tmp 29) ?_ y4.heap.size (tab 32 fun i => bv (Mk.zero 13 i)) ?_ ?_ 42 zh (heap_alloc_last y4 _) (infH _) ?_ (one_bv _ _) ?_); (· exact rfl); (· exact rfl); (· exact rfl); (· exact rfl); (· rw [HZI.out.2.2, tab_size]); rw [World.setRow_alloc_new]; simp only [Act.put]))
  have H5 : Hid (IsMac (y4.alloc (.cells (tab 32 fun i => bv (Mk.zero 13 i)) 42)) b M ∧ Below w.heap.size w (y4.alloc (.cells (tab 32 fun i => bv (Mk.zero 13 i)) 42)) ∧ (IsTab (y4.alloc (.cells (tab 32 fun i => bv (Mk.zero 13 i)) 42)) q3 42 32 fun i => bv (Mk.zero 13 i)) ∧ IsTab (y4.alloc (.cells (tab 32 fun i => bv (Mk.zero 13 i)) 42)) y4.heap.size 42 32 fun i => bv (Mk.zero 13 i)) := Lib.hid ⟨H4.out.1.below (ba _ _), bl H4.out.2.1 (ba _ _), H4.out.2.2.alloc _, IsTab.new y4 _ 32 _⟩
  clear H3 H4
  generalize y4.alloc (.cells (tab 32 fun i => bv (Mk.zero 13 i)) 42) = y5 at *
  generalize y4.heap.size = q5 at *
  have hp := Prove_ok y5 b 5 M H5.out.1 (fun i => by rw [HZM.out i]; decide) (by decide) (ktab_below HT.out H5.out.2.1)
  rw [HZM.out 5, show ((0 : Nat) : Int) = 0 from rfl, show ((5 : Nat) : Int) = 5 from rfl] at hp
  have HPR := Lib.hid hp
  clear hp
  go_upto_region 7 with (first
    | (go_at_call 18; (with_reducible refine HPR.out.mono ?_); rintro e y6 ⟨a, c, he, hc, hcm, hna, hrow, hb⟩; obtain rfl : e = _ := he; obtain ⟨a9, c9, ev, hsa, _⟩ := hs_of hrow; obtain ⟨rfl, _, rfl⟩ := Value.slice.inj ev; have H6 : Hid (Below w.heap.size w y6 ∧ (IsTab y6 q3 42 32 fun i => bv (Mk.zero 13 i)) ∧ (IsTab y6 q5 42 32 fun i => bv (Mk.zero 13 i)) ∧ IsHs y6 a 13 (sib (mg M) 5) ∧ 13 ≤ c) := Lib.hid ⟨bl H5.out.2.1 hb, H5.out.2.2.1.below hb, H5.out.2.2.2.below hb, hsa, hc⟩; clear hb hc hcm hna hrow hsa HPR)
    | ((with_reducible refine wpList_store_row (P := Tryd.prog) (w := y6.alloc (.cells #[.int .u64 0, .slice none 0 0] 54)) ?_ 54 (.tmp 6) (.tmp 34) ?_ y6.heap.size #[.int .u64 0, .slice a 13 c] ?_ ?_ 54 #[.int .u64 0, .slice none 0 0] (heap_alloc_last y6 _) infPt ?_ rfl ?_); (· exact rfl); (· exact rfl); (· exact rfl); (· exact rfl); (· exact rfl); rw [World.setRow_alloc_new]; simp only [Act.put]))
  clear H5
  have HX6 := Lib.hid (Box2.new y6 54 (.int .u64 0) (.slice a 13 c))
  have HX7 : Hid (Below y6.heap.size y6 (y6.alloc (.cells #[.int .u64 0, .slice a 13 c] 54))) := Lib.hid (ba _ _)
  generalize y6.alloc (.cells #[.int .u64 0, .slice a 13 c] 54) = y7 at *
  have HL3 := Lib.hid (load32h (H6.out.2.1.below HX7.out))
  have HL6 := Lib.hid (loadPt HX6.out)
  have hh := Holds_ok y7 (Mk.zero 13) 5 0 c a (sib (mg M) 5) (H6.out.2.2.2.1.below HX7.out) H6.out.2.2.2.2 (by decide) (by decide) (ktab_below HT.out (bl H6.out.1 HX7.out))
  rw [yes_m0 M fun i _ => HZM.out i, show ((0 : Nat) : Int) = 0 from rfl, show ((5 : Nat) : Int) = 5 from rfl] at hh
  have HH := Lib.hid hh
  clear hh
  go_upto_region 8 with (first
    | ((with_reducible refine wpList_loadE (P := Tryd.prog) (w := y7) (ty := 42) (x := .tmp 3) (p := .pointer (some ⟨q3, 0, none⟩)) (v := dv (Mk.zero 13)) ?_ ?_ ?_ HL3.out ?_); (· exact rfl); (· exact rfl); (· exact rfl))
    | ((with_reducible refine wpList_loadE (P := Tryd.prog) (w := y7) (ty := 54) (x := .tmp 6) (p := .pointer (some ⟨y6.heap.size, 0, none⟩)) (v := .agg #[.int .u64 0, .slice a 13 c]) ?_ ?_ ?_ HL6.out ?_); (· exact rfl); (· exact rfl); (· exact rfl))
    | (go_at_call 35; (refine HH.out.mono ?_); rintro e y8 ⟨he, hb⟩; obtain rfl : e = _ := he; have HX8 : Hid (Box2 y8 y6.heap.size 54 (.int .u64 0) (.slice a 13 c) ∧ Below y6.heap.size y6 y8) := Lib.hid ⟨HX6.out.below hb, bl HX7.out hb⟩; clear hb HH))
  clear HX6 HX7 HL3 HL6
  have k0 := HX8.out.1.k0
  have f0 := HX8.out.1.f 0
  have HX9 : Hid (Box2 (y8.setCell ⟨y6.heap.size, 0, none⟩ (.int .u64 1)) y6.heap.size 54 (.int .u64 1) (.slice a 13 c) ∧ Below y6.heap.size y6 (y8.setCell ⟨y6.heap.size, 0, none⟩ (.int .u64 1))) := Lib.hid ⟨HX8.out.1.p0 _, HX8.out.2.setCell (Nat.le_refl _) _⟩
  go_upto_region 9 with (fail)
  clear k0 f0 HX8
  generalize y8.setCell ⟨y6.heap.size, 0, none⟩ (.int .u64 1) = y9 at *
  have HL3 := Lib.hid (load32h (H6.out.2.1.below HX9.out.2))
  have HL6 := Lib.hid (loadPt HX9.out.1)
  have hh := Holds_ok y9 (Mk.zero 13) 5 1 c a (sib (mg M) 5) (H6.out.2.2.2.1.below HX9.out.2) H6.out.2.2.2.2 (by decide) (by decide) (ktab_below HT.out (bl H6.out.1 HX9.out.2))
  rw [no_m0 M fun i _ => HZM.out i, show ((1 : Nat) : Int) = 1 from rfl, show ((5 : Nat) : Int) = 5 from rfl] at hh
  have HH := Lib.hid hh
  clear hh
  go_upto_region 10 with (first
    | ((with_reducible refine wpList_loadE (P := Tryd.prog) (w := y9) (ty := 42) (x := .tmp 3) (p := .pointer (some ⟨q3, 0, none⟩)) (v := dv (Mk.zero 13)) ?_ ?_ ?_ HL3.out ?_); (· exact rfl); (· exact rfl); (· exact rfl))
    | ((with_reducible refine wpList_loadE (P := Tryd.prog) (w := y9) (ty := 54) (x := .tmp 6) (p := .pointer (some ⟨y6.heap.size, 0, none⟩)) (v := .agg #[.int .u64 1, .slice a 13 c]) ?_ ?_ ?_ HL6.out ?_); (· exact rfl); (· exact rfl); (· exact rfl))
    | (go_at_call 35; (refine HH.out.mono ?_); rintro e y10 ⟨he, hb⟩; obtain rfl : e = _ := he; have HX10 : Hid (Box2 y10 y6.heap.size 54 (.int .u64 1) (.slice a 13 c) ∧ Below y6.heap.size y6 y10) := Lib.hid ⟨HX9.out.1.below hb, bl HX9.out.2 hb⟩; clear hb HH))
  clear HX9 HL3 HL6
  have k1 := HX10.out.1.k1
  have HL3 := Lib.hid (load32h (H6.out.2.1.below HX10.out.2))
  have HL5 := Lib.hid (load32h (H6.out.2.2.1.below HX10.out.2))
  have HBF : Hid (Below w.heap.size w y10) := Lib.hid (bl H6.out.1 HX10.out.2)
  go_wp2_with (first
    | ((with_reducible refine wpList_loadG (P := Tryd.prog) (w := y10) (ty := 42) (x := .tmp 5) (p := .pointer (some ⟨q5, 0, none⟩)) (v := dv (Mk.zero 13)) ?_ ?_ ?_ HL5.out ?_); rotate_left; (· exact rfl); (· exact rfl); rotate_left; (· go_simp))
    | ((with_reducible refine wpList_loadG (P := Tryd.prog) (w := y10) (ty := 42) (x := .tmp 3) (p := .pointer (some ⟨q3, 0, none⟩)) (v := dv (Mk.zero 13)) ?_ ?_ ?_ HL3.out ?_); rotate_left; (· exact rfl); (· exact rfl); rotate_left; (· go_simp))
    | (refine wpList_eqG (by go_simp) (.tmp 52) (.tmp 53) 42 (Mk.zero 13) (Mk.zero 13) rfl rfl rfl ?_; rw [same_refl]))
  exact bodyPost_ret (v := .bool true) (by simp [results, Tryd.results10, go_sem]) rfl ⟨rfl, HBF.out⟩
end Co
end Go.Proofs.YtjfpbponjhpdhaaDoor
namespace Go.Proofs.YtjfpbponjhpdhaaDoor
open Go.RowKit
set_option linter.unusedVariables false
set_option linter.unusedSimpArgs false
namespace Co
open Kc Mk Vm
end Co
end Go.Proofs.YtjfpbponjhpdhaaDoor
namespace Go.Proofs.YtjfpbponjhpdhaaDoor
open Go.RowKit Go.ChangeShapes
set_option linter.unusedVariables false
set_option linter.unusedSimpArgs false
namespace Vm
open Kc Mk Wt Co
theorem first_halt (f : Nat → Mac × Sto) : ∀ N : Nat, (∀ i, i < N → (f i).1.halted = true → f (i + 1) = f i) → ∃ k, k ≤ N ∧ (∀ i, i < k → (f i).1.halted = false) ∧ (k = N ∨ (f k).1.halted = true) ∧ ∀ i, k ≤ i → i ≤ N → f i = f k
  | 0, _ => ⟨0, Nat.le_refl _, fun i hi => absurd hi (Nat.not_lt_zero i), .inl rfl, fun i _ h => by rw [Nat.le_zero.1 h]⟩
  | N + 1, h => by
    obtain ⟨k, h1, h2, h3, h4⟩ := first_halt f N fun i hi => h i (by omega)
    cases hh : (f k).1.halted with
    | true =>
      refine ⟨k, by omega, h2, .inr hh, fun i hk hi => ?_⟩
      rcases Nat.lt_or_ge N i with hN | hN
      · obtain rfl : i = N + 1 := by omega
        have e := h4 N h1 (Nat.le_refl _)
        rw [h N (by omega) (by rw [e]; exact hh), e]
      · exact h4 i hk hN
    | false =>
      have hk : k = N := h3.resolve_right (by rw [hh]; decide)
      subst hk
      refine ⟨k + 1, Nat.le_refl _, fun i hi => ?_, .inl rfl, fun i h5 h6 => by rw [Nat.le_antisymm h6 h5]⟩
      rcases Nat.lt_or_ge i k with h7 | h7
      · exact h2 i h7
      · rw [show i = k from by omega]; exact hh
/-- What a machine and its store own. -/
def UU (a : Nat) (T : Nat → Prop) (kb fb : Nat) : Nat → Prop := fun j => j = a ∨ Foot T kb fb j
/-- Two machines, each with a store of its own. -/
structure Tw (w : World) (a s k1 f1 b u k2 f2 : Nat) (p q : Mac × Sto) (y : World) : Prop where
  ma : IsMac y a p.1
  mb : IsMac y b q.1
  st : ∃ T1 T2, IsSt y T1 s k1 f1 p.2 ∧ IsSt y T2 u k2 f2 q.2 ∧ (∀ j, UU a T1 k1 f1 j → w.heap.size ≤ j ∧ j < y.heap.size ∧ ¬ UU b T2 k2 f2 j) ∧ (∀ j, UU b T2 k2 f2 j → w.heap.size ≤ j ∧ j < y.heap.size ∧ ¬ UU a T1 k1 f1 j) ∧ ¬ Foot T1 k1 f1 a ∧ ¬ Foot T2 k2 f2 b
  below : Below w.heap.size w y
theorem Tw.swap {w y : World} {a s k1 f1 b u k2 f2 : Nat} {p q : Mac × Sto} (h : Tw w a s k1 f1 b u k2 f2 p q y) : Tw w b u k2 f2 a s k1 f1 q p y := by
  obtain ⟨T1, T2, h1, h2, h3, h4, h5, h6⟩ := h.st
  exact ⟨h.mb, h.ma, ⟨T2, T1, h2, h1, h4, h3, h6, h5⟩, h.below⟩
theorem Tw.next {w y y' : World} {a s k1 f1 b u k2 f2 : Nat} {p q : Mac × Sto} (h : Tw w a s k1 f1 b u k2 f2 p q y) (hb : Below y.heap.size y y') : Tw w a s k1 f1 b u k2 f2 p q y' := by
  obtain ⟨T1, T2, h1, h2, h3, h4, h5, h6⟩ := h.st
  have z := hb.size
  exact ⟨h.ma.below hb, h.mb.below hb, ⟨T1, T2, h1.below hb, h2.below hb, fun j hj => ⟨(h3 j hj).1, by have := (h3 j hj).2.1; omega, (h3 j hj).2.2⟩, fun j hj => ⟨(h4 j hj).1, by have := (h4 j hj).2.1; omega, (h4 j hj).2.2⟩, h5, h6⟩, bl h.below hb⟩
/-- One of two goes on by itself. -/
theorem Tw.go {w y : World} {a s k1 f1 b u k2 f2 : Nat} {p q : Mac × Sto} (hT : Laid.KTab w) (h : Tw w a s k1 f1 b u k2 f2 p q y) :
    ∃ U : Nat → Prop, Om y U a s k1 f1 p.1 p.2 y ∧ ∀ (p' : Mac × Sto) (y' : World), Om y U a s k1 f1 p'.1 p'.2 y' → Tw w a s k1 f1 b u k2 f2 p' q y' := by
  obtain ⟨T1, T2, h1, h2, h3, h4, h5, h6⟩ := h.st
  have hc := inHeap (hT 0 (by decide))
  refine ⟨UU a T1 k1 f1, ⟨h.ma, ⟨T1, h1, fun j hj => ⟨.inl (.inr (.inl hj)), (h3 j (.inr (.inl hj))).2.1, fun e => h5 (e ▸ .inl hj)⟩⟩, Kept.refl _ _, ktab_below hT h.below, fun hj => by have := (h3 _ hj).1; omega, .inl rfl, fun e => h5 (e ▸ .inr (.inl rfl)), fun e => h5 (e ▸ .inr (.inr rfl)), .inr (.inr (.inl rfl)), .inr (.inr (.inr rfl))⟩, fun p' y' ho => ?_⟩
  obtain ⟨T', hst', hT'⟩ := ho.st
  have hk := ho.kept
  have z1 := hk.size
  have z2 := h.below.size
  have hU : ∀ j, UU a T' k1 f1 j → UU a T1 k1 f1 j ∨ y.heap.size ≤ j := fun j hj => by
    rcases hj with hj | hj | hj | hj
    · exact .inl (.inl hj)
    · exact (hT' j hj).1
    · exact .inl (.inr (.inr (.inl hj)))
    · exact .inl (.inr (.inr (.inr hj)))
  have hU2 : ∀ j, UU a T' k1 f1 j → w.heap.size ≤ j ∧ j < y'.heap.size ∧ ¬ UU b T2 k2 f2 j := fun j hj => by
    have hlt : j < y'.heap.size := by
      rcases hj with hj | hj | hj | hj
      · have := ho.mac.lt; omega
      · exact (hT' j hj).2.1
      · have := (h3 j (.inr (.inr (.inl hj)))).2.1; omega
      · have := (h3 j (.inr (.inr (.inr hj)))).2.1; omega
    rcases hU j hj with g | g
    · exact ⟨(h3 j g).1, hlt, (h3 j g).2.2⟩
    · exact ⟨by omega, hlt, fun g2 => by have := (h4 j g2).2.1; omega⟩
  refine ⟨ho.mac, h.mb.kept hk (fun g => (h3 b g).2.2 (.inl rfl)), ⟨T', T2, hst', h2.kept hk (fun k hk g => (h3 k g).2.2 (.inr (.inl hk))) (fun g => (h3 _ g).2.2 (.inr (.inr (.inl rfl)))) (fun g => (h3 _ g).2.2 (.inr (.inr (.inr rfl)))), hU2, fun j hj => ⟨(h4 j hj).1, by have := (h4 j hj).2.1; omega, fun g => (hU2 j g).2.2 hj⟩, ?_, h6⟩, Wt.below_of h.below hk fun i _ hi => (h3 i hi).1⟩
  rintro (hj | hj | hj)
  · exact (hT' a hj).2.2 rfl
  · exact h5 (.inr (.inl hj))
  · exact h5 (.inr (.inr hj))
theorem OkM.w {M : Mac} (h : OkM M) : OkW M := ⟨h.reg, h.pc, h.exit⟩
set_option maxHeartbeats 16000000 in
set_option maxRecDepth 100000 in
theorem commitRuns_in (C : Value) (l : List Nat) (hl : l.length ≤ 8192) (hw : ∀ x ∈ l, x < 18446744073709551616) (w : World)
    (hC : ∀ y, Below w.heap.size w y → Calls Tryd.prog 8 #[C] y fun e w' => ∃ V q, e = .returned V ∧ w'.ownsRow q 33 1 V l.length (l.map wv') ∧ Below y.heap.size y w')
    (n : Int) (hT : Laid.KTab w) :
    Calls Tryd.prog 5 #[C, .int .i64 n] w fun e w' => e = .returned (.bool true) ∧ Below w.heap.size w w' := by
  obtain ⟨N, hN, hN1⟩ : ∃ N : Nat, wrap64 (1 + wrap64 ((IntKind.u64.wrap n).tmod 4)) = (N : Int) ∧ N ≤ 4 := by
    obtain ⟨X, hX, hXl⟩ : ∃ X : Nat, IntKind.u64.wrap n = X ∧ X < 18446744073709551616 := ⟨wN n, wN_eq n, wN_lt n⟩
    refine ⟨X % 4 + 1, ?_, by omega⟩
    rw [hX, Int.tmod_eq_emod_of_nonneg (by omega)]
    unfold wrap64; omega
  obtain ⟨M0, hM0⟩ : ∃ M0, loaded l.length (fun j => l.getD j 0) = M0 := ⟨_, rfl⟩
  have HOK : Hid (OkM M0) := Lib.hid (by
    rw [← hM0]
    refine ok_loaded _ _ fun i => ?_
    rw [List.getD_eq_getElem?_getD]
    cases h : l[i]? with
    | none => decide
    | some x => exact hw x (List.mem_of_getElem? h))
  have HSQ := Lib.hid (seq_all (M0, nw) HOK.out 40 (by show 0 + 40 < 1073741824; decide))
  have HN := Lib.hid (And.intro hN hN1)
  have HT := Lib.hid hT
  have HL := Lib.hid hl
  have HM0 := Lib.hid hM0
  have HC := Lib.hid hC
  clear hN hN1 hT hl hM0 hC hw
  have z2 := zeroHash
  have HBH := Lib.hid (fun u : World => buildH0 u)
  generalize hz : (tab 32 fun _ => bv 0#8) = zh at *
  have HZ := Lib.hid hz
  clear hz
  have HZI : Hid ((Tryd.prog.info? 42).map (·.size) = some zh.size ∧ zh.all (·.oneCell') = true ∧ zh.size = 32) := Lib.hid ⟨by rw [← HZ.out]; exact infH _, by rw [← HZ.out]; exact one_bv _ _, by rw [← HZ.out, tab_size]⟩
  go_enter Tryd.func5, Tryd.ntmps5
  have HCW := Lib.hid (HC.out w (Below.refl _ _))
  go_upto_region 2 with (first
    | (go_at_call 8; (with_reducible refine HCW.out.mono ?_); rintro e y2 ⟨V, q, he, hrow, hb⟩; obtain rfl : e = _ := he; have HBW := Lib.hid hb; have HLD := Lib.hid (load_any y2 q V l.length l rfl hrow HL.out); clear hrow hb HCW)
    | (go_at_call 7; (with_reducible refine HLD.out.mono ?_); rintro e y3 ⟨he, hm, hb⟩; obtain rfl : e = _ := he; have H3 : Hid (IsMac y3 y2.heap.size M0 ∧ Below w.heap.size w y3 ∧ w.heap.size ≤ y2.heap.size) := Lib.hid ⟨HM0.out ▸ hm, bl HBW.out hb, HBW.out.size⟩; clear hm hb HLD HBW))
  generalize y2.heap.size = a at *
  have HCW := Lib.hid (HC.out y3 H3.out.2.1)
  go_upto_region 3 with (first
    | (go_at_call 8; (with_reducible refine HCW.out.mono ?_); rintro e y4 ⟨V2, q2, he, hrow, hb⟩; obtain rfl : e = _ := he; have HBW := Lib.hid hb; have HLD := Lib.hid (load_any y4 q2 V2 l.length l rfl hrow HL.out); clear hrow hb HCW)
    | (go_at_call 7; (with_reducible refine HLD.out.mono ?_); rintro e y5 ⟨he, hm, hb⟩; obtain rfl : e = _ := he; have H5 : Hid (IsMac y5 y4.heap.size M0 ∧ Below y3.heap.size y3 y5 ∧ y3.heap.size ≤ y4.heap.size) := Lib.hid ⟨HM0.out ▸ hm, bl HBW.out hb, HBW.out.size⟩; clear hm hb HLD HBW))
  generalize y4.heap.size = b at *
  have HFX := Lib.hid (fixed11_walk y5 (ktab_below HT.out (bl H3.out.2.1 H5.out.2.1)))
  go_upto_region 5 with (go_at_call 10; (with_reducible refine HFX.out.mono ?_); rintro e y6 ⟨he, hb⟩; obtain rfl : e = _ := he; have H6 : Hid (IsMac y6 a M0 ∧ IsMac y6 b M0 ∧ Below w.heap.size w y6 ∧ w.heap.size ≤ a ∧ a < b) := Lib.hid ⟨(H3.out.1.below H5.out.2.1).below hb, H5.out.1.below hb, bl (bl H3.out.2.1 H5.out.2.1) hb, H3.out.2.2, by have h1 := H3.out.1.lt; have h2 := H5.out.2.2; omega⟩; clear hb HFX)
  clear H3 H5
  have hT6 := ktab_below HT.out H6.out.2.2.1
  have HN1 := Lib.hid (New_walk y6 hT6 (lowB_le' hT6))
  clear hT6
  go_upto_region 6 with (first
    | (go_at_call 9; (with_reducible refine HN1.out.mono ?_); rintro e y7 ⟨s, T1, k1, f1, he, hst, hb, hF, hTl, hkt⟩; obtain rfl : e = _ := he; have H7 := Lib.hid (And.intro hst (And.intro hb (And.intro hF hTl))); have HN2 := Lib.hid (New_walk y7 hkt (lowB_le' hkt)); clear hst hb hF hTl hkt HN1)
    | (go_at_call 9; (with_reducible refine HN2.out.mono ?_); rintro e y8 ⟨u, T2, k2, f2, he, hst, hb, hF, hTl, hkt⟩; obtain rfl : e = _ := he; have H8 := Lib.hid (And.intro hst (And.intro hb (And.intro hF hTl))); clear hst hb hF hTl hkt HN2))
  have HTW : Hid (Tw w a s k1 f1 b u k2 f2 (seqG (M0, nw) (5 * 0)) (seqG (M0, nw) (5 * 0)) y8) := Lib.hid (by
    obtain ⟨g1, g2, g3, g4, g5⟩ := H6.out
    obtain ⟨e1, e2, e3, e4⟩ := H7.out
    obtain ⟨d1, d2, d3, d4⟩ := H8.out
    have z1 := g1.lt
    have z2 := g2.lt
    have z3 := e1.kin.lt
    have z4 := d1.kin.lt
    have z5 := e2.size
    have z6 := d2.size
    have z7 := g3.size
    have x1 : ∀ j, Foot T1 k1 f1 j → y6.heap.size ≤ j ∧ j < y7.heap.size := fun j hj => ⟨e3 j hj, by
      rcases hj with hj | hj | hj
      · exact e4 j hj
      · omega
      · omega⟩
    have x2 : ∀ j, Foot T2 k2 f2 j → y7.heap.size ≤ j ∧ j < y8.heap.size := fun j hj => ⟨d3 j hj, by
      rcases hj with hj | hj | hj
      · exact d4 j hj
      · omega
      · omega⟩
    refine ⟨(g1.below e2).below d2, (g2.below e2).below d2, ⟨T1, T2, e1.below d2, d1, ?_, ?_, fun h => by have := x1 _ h; omega, fun h => by have := x2 _ h; omega⟩, bl (bl g3 e2) d2⟩
    · rintro j (hj | hj)
      · refine ⟨by omega, by omega, ?_⟩
        rintro (h | h)
        · omega
        · have := x2 _ h; omega
      · have h1 := x1 _ hj
        refine ⟨by omega, by omega, ?_⟩
        rintro (h | h)
        · omega
        · have := x2 _ h; omega
    · rintro j (hj | hj)
      · refine ⟨by omega, by omega, ?_⟩
        rintro (h | h)
        · omega
        · have := x1 _ h; omega
      · have h1 := x2 _ hj
        refine ⟨by omega, by omega, ?_⟩
        rintro (h | h)
        · omega
        · have := x1 _ h; omega)
  clear H6 H7 H8
  go_upto_region 7 with (fail)
  rw [HN.out.1]
  go_loopw [52] (fun t y => ∃ K : Nat, t = .int .i64 K ∧ Hid (K ≤ N ∧ Tw w a s k1 f1 b u k2 f2 (seqG (M0, nw) (5 * K)) (seqG (M0, nw) (5 * K)) y)) (fun t _ => N - (intOf t).toNat)
  case atStart => exact ⟨0, rfl, Lib.hid ⟨Nat.zero_le _, HTW.out⟩⟩
  case round =>
    obtain ⟨K, rfl, hp⟩ := hrel
    have HP := Lib.hid hp.out
    clear hp HTW
    by_cases hlt : K < N
    · have t1 : decide (K < N) = true := by simp; omega
      have HJ : Hid (K < N ∧ wrap64 ((K : Int) + 1) = ((K + 1 : Nat) : Int)) := Lib.hid ⟨hlt, wrap_up K (by have := HN.out.2; omega)⟩
      have HOM : Hid (OkM (seqG (M0, nw) (5 * K)).1) := Lib.hid ((HSQ.out (5 * K) (by have := HN.out.2; omega)).1)
      clear hlt
      obtain ⟨k, hk1, hk2, hk3, hk4⟩ := first_halt (fun i => seqG (M0, nw) (5 * K + i)) 5 (fun i hi => (HSQ.out (5 * K + i) (by have := HN.out.2; have := HJ.out.1; omega)).2.2.2.2.1)
      have HK := Lib.hid (And.intro hk1 (And.intro hk2 (And.intro hk3 hk4)))
      clear hk1 hk2 hk3 hk4
      have HOF := Lib.hid (of_ok wr a (seqG (M0, nw) (5 * K)).1 HP.out.2.ma HOM.out.mem HOM.out.w (ktab_below HT.out HP.out.2.below))
      go_upto_region 9 with (first
        | (go_at_call 16; (with_reducible refine HOF.out.mono ?_); rintro e y1 ⟨he, hb⟩; obtain rfl : e = _ := he; have H1 := Lib.hid (HP.out.2.next hb); clear hb HOF)
        | ((with_reducible refine wpList_store_row (P := Tryd.prog) (w := y1.alloc (.cells zh 42)) ?_ 42 (.tmp 11) (.tmp 57) ?_ y1.heap.size (tab 32 fun i => bv (ofX (seqG (M0, nw) (5 * K)).1 i)) ?_ ?_ 42 zh (heap_alloc_last y1 _) (infH _) ?_ (one_bv _ _) ?_); (· exact rfl); (· exact rfl); (· exact rfl); (· exact rfl); (· rw [HZI.out.2.2, tab_size]); rw [World.setRow_alloc_new]; simp only [Act.put]))
      have H2 : Hid (Tw w a s k1 f1 b u k2 f2 (seqG (M0, nw) (5 * K)) (seqG (M0, nw) (5 * K)) (y1.alloc (.cells (tab 32 fun i => bv (ofX (seqG (M0, nw) (5 * K)).1 i)) 42)) ∧ IsTab (y1.alloc (.cells (tab 32 fun i => bv (ofX (seqG (M0, nw) (5 * K)).1 i)) 42)) y1.heap.size 42 32 fun i => bv (ofX (seqG (M0, nw) (5 * K)).1 i)) := Lib.hid ⟨H1.out.next (ba _ _), IsTab.new y1 _ 32 _⟩
      clear H1
      generalize y1.alloc (.cells (tab 32 fun i => bv (ofX (seqG (M0, nw) (5 * K)).1 i)) 42) = y2 at *
      generalize y1.heap.size = q11 at *
      have HOF := Lib.hid (of_ok y2 b (seqG (M0, nw) (5 * K)).1 H2.out.1.mb HOM.out.mem HOM.out.w (ktab_below HT.out H2.out.1.below))
      go_upto_region 10 with (first
        | (go_at_call 16; (with_reducible refine HOF.out.mono ?_); rintro e y3 ⟨he, hb⟩; obtain rfl : e = _ := he; have H3 : Hid (Tw w a s k1 f1 b u k2 f2 (seqG (M0, nw) (5 * K)) (seqG (M0, nw) (5 * K)) y3 ∧ IsTab y3 q11 42 32 fun i => bv (ofX (seqG (M0, nw) (5 * K)).1 i)) := Lib.hid ⟨H2.out.1.next hb, H2.out.2.below hb⟩; clear hb HOF)
        | ((with_reducible refine wpList_store_row (P := Tryd.prog) (w := y3.alloc (.cells zh 42)) ?_ 42 (.tmp 13) (.tmp 62) ?_ y3.heap.size (tab 32 fun i => bv (ofX (seqG (M0, nw) (5 * K)).1 i)) ?_ ?_ 42 zh (heap_alloc_last y3 _) (infH _) ?_ (one_bv _ _) ?_); (· exact rfl); (· exact rfl); (· exact rfl); (· exact rfl); (· rw [HZI.out.2.2, tab_size]); rw [World.setRow_alloc_new]; simp only [Act.put]))
      have H4 : Hid (Tw w a s k1 f1 b u k2 f2 (seqG (M0, nw) (5 * K)) (seqG (M0, nw) (5 * K)) (y3.alloc (.cells (tab 32 fun i => bv (ofX (seqG (M0, nw) (5 * K)).1 i)) 42)) ∧ (IsTab (y3.alloc (.cells (tab 32 fun i => bv (ofX (seqG (M0, nw) (5 * K)).1 i)) 42)) q11 42 32 fun i => bv (ofX (seqG (M0, nw) (5 * K)).1 i)) ∧ IsTab (y3.alloc (.cells (tab 32 fun i => bv (ofX (seqG (M0, nw) (5 * K)).1 i)) 42)) y3.heap.size 42 32 fun i => bv (ofX (seqG (M0, nw) (5 * K)).1 i)) := Lib.hid ⟨H3.out.1.next (ba _ _), H3.out.2.below (ba _ _), IsTab.new y3 _ 32 _⟩
      clear H2 H3
      generalize y3.alloc (.cells (tab 32 fun i => bv (ofX (seqG (M0, nw) (5 * K)).1 i)) 42) = y4 at *
      generalize y3.heap.size = q13 at *
      have HL11 := Lib.hid (load32h H4.out.2.1)
      have HL13 := Lib.hid (load32h H4.out.2.2)
      generalize ofX (seqG (M0, nw) (5 * K)).1 = D at *
      go_upto_region 12 with (first
        | ((with_reducible refine wpList_loadG (P := Tryd.prog) (w := y4) (ty := 42) (x := .tmp 11) (p := .pointer (some ⟨q11, 0, none⟩)) (v := dv D) ?_ ?_ ?_ HL11.out ?_); rotate_left; (· exact rfl); (· exact rfl); rotate_left; (· go_simp))
        | ((with_reducible refine wpList_loadG (P := Tryd.prog) (w := y4) (ty := 42) (x := .tmp 13) (p := .pointer (some ⟨q13, 0, none⟩)) (v := dv D) ?_ ?_ ?_ HL13.out ?_); rotate_left; (· exact rfl); (· exact rfl); rotate_left; (· go_simp))
        | (refine wpList_neqG (by go_simp) (.tmp 71) (.tmp 72) 42 D rfl rfl rfl ?_))
      obtain ⟨U1, ho1, hu1⟩ := Tw.go HT.out H4.out.1
      have HU1 := Lib.hid hu1
      have HRUN := Lib.hid (run_walk a s 5 k (fun i => (seqG (M0, nw) (5 * K + i)).1) (fun i y => Om y4 U1 a s k1 f1 (seqG (M0, nw) (5 * K + i)).1 (seqG (M0, nw) (5 * K + i)).2 y) (fun i y h => h.mac)
        (fun i y hi ho => (HSQ.out (5 * K + i) (by have := HN.out.2; have := HJ.out.1; have := HK.out.1; omega)).2.2.2.2.2 _ _ _ _ _ _ y ho) HK.out.1 HK.out.2.1 HK.out.2.2.1 (by decide) y4 ho1)
      clear HL11 HL13 H4 ho1 hu1
      rw [show ((5 : Nat) : Int) = 5 from rfl] at HRUN
      go_upto_region 13 with (go_at_call 11; (with_reducible refine HRUN.out.mono ?_); rintro e y5 ⟨he, hom⟩; obtain rfl : e = _ := he; have HO5 := Lib.hid hom; clear hom HRUN)
      have HT5 : Hid (Tw w a s k1 f1 b u k2 f2 (seqG (M0, nw) (5 * (K + 1))) (seqG (M0, nw) (5 * K + 0)) y5) := Lib.hid (by
        have h := HU1.out (seqG (M0, nw) (5 * K + k)) y5 HO5.out
        have e := HK.out.2.2.2 5 HK.out.1 (Nat.le_refl _)
        rw [show seqG (M0, nw) (5 * (K + 1)) = seqG (M0, nw) (5 * K + k) from e]
        exact h)
      clear HU1 HO5 HP
      go_upto_region 14 with (fail)
      go_loopw [78] (fun t y => ∃ j : Nat, t = .int .i64 j ∧ Hid (j ≤ 5 ∧ Tw w a s k1 f1 b u k2 f2 (seqG (M0, nw) (5 * (K + 1))) (seqG (M0, nw) (5 * K + j)) y)) (fun t _ => 5 - (intOf t).toNat)
      case atStart => exact ⟨0, rfl, Lib.hid ⟨Nat.zero_le _, HT5.out⟩⟩
      case round =>
        obtain ⟨j, rfl, hp⟩ := hrel
        have HP := Lib.hid hp.out
        clear hp HT5
        by_cases hlt : j < 5
        · have t1 : decide ((j : Int) < 5) = true := by simp; omega
          have HJ2 : Hid (j < 5 ∧ wrap64 ((j : Int) + 1) = ((j + 1 : Nat) : Int)) := Lib.hid ⟨hlt, wrap_up j (by omega)⟩
          obtain ⟨U2, ho2, hu2⟩ := Tw.go HT.out HP.out.2.swap
          have HU2 := Lib.hid hu2
          have HST := Lib.hid (Step_walk wr b u (fun w' => Om wr U2 b u k2 f2 (seqG (M0, nw) (5 * K + (j + 1))).1 (seqG (M0, nw) (5 * K + (j + 1))).2 w') ((HSQ.out (5 * K + j) (by have := HN.out.2; have := HJ.out.1; omega)).2.2.2.2.2 _ _ _ _ _ _ wr ho2))
          clear hlt ho2 hu2
          go_upto_region 16 with (go_at_call 14; (with_reducible refine HST.out.mono ?_); rintro e y1 ⟨he, ho⟩; obtain rfl : e = _ := he; have HO := Lib.hid (HU2.out (seqG (M0, nw) (5 * K + (j + 1))) y1 ho).swap; clear ho HST)
          clear HP HU2
          have hw1 := HJ2.out.2
          go_wp2_with (fail)
          go_roundw
          case rel => exact ⟨j + 1, by go_num, Lib.hid ⟨HJ2.out.1, HO.out⟩⟩
          case measure => exact meas_loop HJ2.out.1 HJ2.out.2
        · obtain rfl : j = 5 := by have := HP.out.1; omega
          clear hlt
          have hw1 := HJ.out.2
          go_wp2_with (fail)
          go_roundw
          case rel => exact ⟨K + 1, by go_num, Lib.hid ⟨HJ.out.1, HP.out.2⟩⟩
          case measure => exact meas_loop HJ.out.1 HJ.out.2
    · have t1 : decide (K < N) = false := by simp; omega
      clear hlt
      go_wp2_with (fail)
      exact bodyPost_ret (v := .bool true) (by simp [results, Tryd.results5, go_sem]) rfl ⟨rfl, HP.out.2.below⟩
theorem commitRuns_walk (a0 : Option Addr) (len0 cap0 : Nat) (n : Int) {w : World} (w0 : IsRecs [.i64, .i64, .i64, .i64, .i64, .i64, .u64] w a0 len0 cap0) (w1 : (Lit.int .i64 n).wf = true) (ht : Laid.KTab w) :
    Calls Tryd.prog 5 #[.slice a0 len0 cap0, .int .i64 n] w fun e w' => e = .returned (.bool true) ∧ Below w.heap.size w w' := by
  obtain ⟨hm, h⟩ := recs_ins w0
  rcases h with rfl | ⟨b, o, f, rfl, hlt, hi, hf⟩
  · refine commitRuns_in _ [] (by decide) (fun x hx => by cases hx) w (fun y hy => (words_zero y a0 cap0).mono ?_) n ht
    rintro e w' ⟨he, hw⟩
    subst hw
    exact ⟨_, 0, he, World.ownsRow_nil _ _ _ _, Below.refl _ _⟩
  · refine commitRuns_in _ ((List.range (min len0 8192)).map fun i => wordOf (f i)) (by simp; omega) (fun x hx => ?_) w (fun y hy => (words_any y b o len0 cap0 f (hi.below hy) (Nat.lt_of_lt_of_le hlt hy.size) (min len0 8192) ⟨by omega, by omega, by omega, hm⟩).mono ?_) n ht
    · obtain ⟨i, _, rfl⟩ := List.mem_map.1 hx
      exact hf i
    · rintro e w' ⟨V, he, hw⟩
      refine ⟨V, y.heap.size, he, ?_, hw.below⟩
      have hr := hw.row
      rw [List.map_map]
      simpa [Function.comp_def] using hr
end Vm
end Go.Proofs.YtjfpbponjhpdhaaDoor
