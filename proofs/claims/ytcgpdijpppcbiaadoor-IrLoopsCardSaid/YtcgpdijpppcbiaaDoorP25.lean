/- Merged of Uh Est Evw Evx. Own work. -/
import Derived.Test.YtcgpdijpppcbiaaDoorP24
import Derived.Test.YtcgpdijpppcbiaaDoorP20
import Derived.Test.YtcgpdijpppcbiaaDoorP17
namespace Go.Proofs.YtcgpdijpppcbiaaDoor
open Go.RowKit
set_option linter.unusedVariables false
set_option linter.unusedSimpArgs false
namespace Wt
open Kc Mk
theorem zs_len' (k : Nat) (hk : k ≤ 16) : (zs k).length = k := by rw [zs_eq k hk]; simp
theorem kf_zs (k i : Nat) (hk : k ≤ 16) (hi : i < k) : kf (zs k) i = zero (i + 1) := by
  rw [zs_eq k hk]
  unfold kf
  simp [hi]
theorem map_range_succ {α : Type} (f : Nat → α) (k : Nat) : (List.range (k + 1)).map f = (List.range k).map f ++ [f k] := by rw [List.range_succ, List.map_append]; rfl
theorem zs_succ0 (k : Nat) (hk : k < 16) : zs (k + 1) = zs k ++ [(zero (k + 1), zz k)] := by
  refine (zs_eq (k + 1) (by omega)).trans ?_
  refine (map_range_succ _ k).trans ?_
  exact congrArg (fun l => l ++ _) (zs_eq k (by omega)).symm
theorem zs_succ (k : Nat) (hk : k < 16) : zs (k + 1) = zs k ++ [(hs (zz k), zz k)] := by
  rw [hs_zz]
  exact zs_succ0 k hk
theorem buildR0 (w : World) : (Instr.build 87 #[]).run Tryd.prog w = .ok (.agg #[.slice none 0 0, .slice none 0 0, .slice none 0 0, .bool false]) w := by kernel_rfl
theorem row_ld {w : World} {n c g j : Nat} {f : Nat → Hx} (h : w.ownsRow 0 59 32 (.slice (some ⟨g, 0, none⟩) n c) n (flat n f)) (hj : j < n) : (Instr.loadAt 59 (.pointer (some ⟨g, 32 * j, none⟩))).run Tryd.prog w = .ok (.agg (tab 32 fun i => bv (f j i))) w := by
  obtain ⟨a, c', hv, hld⟩ := row_hx h
  obtain ⟨h1, h2, h3⟩ := Value.slice.inj hv
  subst h1
  obtain ⟨g', hg, hl⟩ := hld j hj
  obtain rfl : g = g' := by simpa using hg
  exact hl w (Below.refl _ _)
/-- What New's loop keeps. -/
structure Rn (W : World) (r k : Nat) (V : Value) (y : World) : Prop where
  st : ∃ T : Nat → Prop, IsR y T r ⟨zs k, []⟩ false ∧ ∀ j, T j → W.heap.size ≤ j ∧ j < y.heap.size ∧ ∀ q, V.ownBlock = some q → q ≠ j
  row : y.ownsRow 0 59 32 V 17 (flat 17 zero)
  below : Below W.heap.size W y
theorem Rn.next {W y y' : World} {r k : Nat} {V : Value} (h : Rn W r k V y) (hb : Below y.heap.size y y') : Rn W r k V y' := by
  obtain ⟨⟨T, h1, h2⟩, h3, h4⟩ := h
  exact ⟨⟨T, h1.below hb, fun j hj => ⟨(h2 j hj).1, Nat.lt_of_lt_of_le (h2 j hj).2.1 hb.size, (h2 j hj).2.2⟩⟩, (Kept.ofBelow (S := fun _ => False) hb).row h3 (fun _ _ h => h), bl h4 hb⟩
theorem Rn.add {W y : World} {r k : Nat} {V : Value} (h : Rn W r k V y) (hk : k < 16) : Calls Tryd.prog 18 #[.pointer (some ⟨r, 0, none⟩), pv (zz k)] y fun e w' => (∃ v, e = .returned v) ∧ Rn W r (k + 1) V w' := by
  obtain ⟨⟨T, h1, h2⟩, h3, h4⟩ := h
  refine (radd_new T r ⟨zs k, []⟩ false (zz k) y h1 (fun j hj => (h2 j hj).2.1) (by show (zs k).length < _; rw [zs_len' k (by omega)]; omega) (fun i hi => ?_) ?_).mono ?_
  · have hi : i < (zs k).length := hi
    rw [zs_len' k (by omega)] at hi
    show key (kf (zs k) i) ≠ _
    rw [kf_zs k i (by omega) hi, hs_zz]
    exact zero_ne (by omega) (by omega) (by omega)
  · show Apart (zs k ++ [(hs (zz k), zz k)])
    rw [← zs_succ k hk]
    exact zs_apart (k + 1)
  · rintro e w' ⟨he, T', c1, c2, c3⟩
    have hz := c3.size
    have hw := h4.size
    have e1 : (⟨zs k ++ [(hs (zz k), zz k)], []⟩ : Sto) = ⟨zs (k + 1), []⟩ := by rw [zs_succ k hk]
    refine ⟨⟨_, he⟩, ⟨T', e1 ▸ c1, fun j hj => ?_⟩, c3.row h3 fun q e ht => (h2 q ht).2.2 q e rfl, below_of h4 c3 fun j _ hj => (h2 j hj).1⟩
    rcases (c2 j hj).1 with h9 | h9
    · exact ⟨(h2 j h9).1, (c2 j hj).2, (h2 j h9).2.2⟩
    · exact ⟨by omega, (c2 j hj).2, fun q e eq => by have := own_lt h3 e; omega⟩
set_option maxHeartbeats 4000000 in
set_option maxRecDepth 100000 in
theorem rnew_walk (w : World) : Calls Tryd.prog 16 #[] w fun e w' => ∃ r, e = .returned (.pointer (some ⟨r, 0, none⟩)) ∧ ∃ T : Nat → Prop, IsR w' T r ⟨zs 16, []⟩ false ∧ (∀ j, T j → w.heap.size ≤ j ∧ j < w'.heap.size) ∧ Below w.heap.size w w' := by
  have HBR := Lib.hid (buildR0 w)
  have HR0 : Hid (IsR (w.alloc (.cells #[.slice none 0 0, .slice none 0 0, .slice none 0 0, .bool false] 87)) (fun j => j = w.heap.size) w.heap.size ⟨zs 0, []⟩ false) := Lib.hid ⟨_, _, _, Box4.new w _ _ _ _ _, World.ownsRow_nil _ _ _ _, World.ownsRow_nil _ _ _ _, World.ownsRow_nil _ _ _ _, List.Pairwise.nil, rfl, fun k e => (by cases e), fun k e => (by cases e), fun k e => (by cases e)⟩
  have HZR := Lib.hid (zeros_walk (w.alloc (.cells #[.slice none 0 0, .slice none 0 0, .slice none 0 0, .bool false] 87)))
  have HBA := Lib.hid (ba w (.cells #[.slice none 0 0, .slice none 0 0, .slice none 0 0, .bool false] 87))
  go_enter Tryd.func16, Tryd.ntmps16
  go_upto_region 3 with (first
    | ((with_reducible refine Wt.wpList_buildM (P := Tryd.prog) (w := w) ?_ 87 ?_ (.agg #[.slice none 0 0, .slice none 0 0, .slice none 0 0, .bool false]) HBR.out ?_); (· exact rfl); (· exact rfl))
    | (go_at_call 27; (with_reducible refine HZR.out.mono ?_); rintro e y1 ⟨V, he, hrow, hb⟩; obtain rfl : e = _ := he; have H1 := Lib.hid (And.intro hrow hb); clear hrow hb HZR))
  have H0 : Hid (Rn w w.heap.size 0 V y1) := by
    have hz := HBA.out.size
    have hlt : w.heap.size < (w.alloc (.cells #[.slice none 0 0, .slice none 0 0, .slice none 0 0, .bool false] 87)).heap.size := by simp
    have hz2 := H1.out.2.size
    exact Lib.hid ⟨⟨_, HR0.out.below H1.out.2, fun j hj => ⟨by omega, by omega, fun q e => by have := owns_base H1.out.1 e; omega⟩⟩, row_base H1.out.1 (Nat.zero_le _), bl HBA.out H1.out.2⟩
  clear HBR HR0 HBA H1
  generalize w.heap.size = r at *
  go_wp2_with (fail)
  go_loopw [3] (fun ti y => ∃ k : Nat, k ≤ 16 ∧ ti = .int .i64 k ∧ Hid (Rn w r k V y)) (fun ti _ => 16 - (intOf ti).toNat)
  case atStart => exact ⟨0, Nat.zero_le _, rfl, H0⟩
  case round =>
    obtain ⟨k, hk, rfl, hp⟩ := hrel
    have HP := Lib.hid hp.out
    clear hp H0
    by_cases hlt : (k : Int) < 16
    · have HI : Hid (k < 16 ∧ wrap64 ((k : Int) + 1) = ((k + 1 : Nat) : Int)) := Lib.hid ⟨by omega, by unfold wrap64; omega⟩
      obtain ⟨a, c, hv, hld⟩ := row_hx HP.out.row
      obtain ⟨g, hg, hlo⟩ := hld k (by omega)
      obtain ⟨o, ho⟩ : ∃ o, 32 * k = o := ⟨_, rfl⟩
      rw [ho] at hlo
      have hko : k * 32 = o := by omega
      subst hg
      have HLO := Lib.hid hlo
      have HV := Lib.hid hv
      have hk17 : (k : Int) < 17 := by omega
      have HKO := Lib.hid (And.intro hk17 hko)
      have HOO := Lib.hid ho
      have HK17 : Hid (k < 17) := Lib.hid (by omega)
      clear hk hlo hld ho hko hk17
      go_upto_region 6 with (fail)
      have HD := Lib.hid (HP.out.next (Below.refl _ _).drew)
      have HLW : Hid (∀ y : World, y.ownsRow 0 59 32 (.slice (some ⟨g, 0, none⟩) 17 c) 17 (flat 17 zero) → (Instr.loadAt 59 (.pointer (some ⟨g, o, none⟩))).run Tryd.prog y = .ok (.agg (tab 32 fun i => bv (zero k i))) y) := Lib.hid fun y hy => by rw [← HOO.out]; exact row_ld hy HK17.out
      clear HP HLO
      rw [HV.out]
      refine wp_region_og (fun z : World => z.ownsRow 0 59 32 (.slice (some ⟨g, 0, none⟩) 17 c) 17 (flat 17 zero)) (.take 0 (.take 1 (.take 2 (.take 3 (.take 4 (.take 5 (.take 6 (.take 7 (.take 8 (.one 9 (.one 10 .done))))))))))) (by kernel_rfl) (by kernel_rfl) (HV.out ▸ HD.out.row) ?_
      generalize wr.drew = y2 at *
      refine og_tk (some 11) (.pointer (some ⟨r, 0, none⟩)) rfl rfl (by go_simp) (fun _ _ => by simp [execOp, go_sem]) ?_
      simp only [Act.put, pS]
      refine og_tk (some 12) (.slice (some ⟨g, 0, none⟩) 17 c) rfl rfl (by go_simp) (fun _ _ => by simp [execOp, go_sem]) ?_
      simp only [Act.put, pS]
      refine og_tk (some 13) (.int .i64 k) rfl rfl (by go_simp) (fun _ _ => by simp [execOp, go_sem]) ?_
      simp only [Act.put, pS]
      refine og_tk (some 14) (.pointer (some ⟨g, o, none⟩)) rfl rfl (by go_simp) (fun y hy => by have h1 := HKO.out.1; have h2 := HKO.out.2; simp [execOp, go_sem, h1, h2, Result.andThen, Tryd.underlying85]) ?_
      simp only [Act.put, pS]
      refine og_ld (some 15) 59 (.tmp 14) (.pointer (some ⟨g, o, none⟩)) (.agg (tab 32 fun i => bv (zero k i))) rfl rfl (by go_simp) rfl rfl (fun y hy => HLW.out y hy) ?_
      simp only [Act.put, pS]
      refine og_tk (some 16) (.slice (some ⟨g, 0, none⟩) 17 c) rfl rfl (by go_simp) (fun _ _ => by simp [execOp, go_sem]) ?_
      simp only [Act.put, pS]
      refine og_tk (some 17) (.int .i64 k) rfl rfl (by go_simp) (fun _ _ => by simp [execOp, go_sem]) ?_
      simp only [Act.put, pS]
      refine og_tk (some 18) (.pointer (some ⟨g, o, none⟩)) rfl rfl (by go_simp) (fun y hy => by have h1 := HKO.out.1; have h2 := HKO.out.2; simp [execOp, go_sem, h1, h2, Result.andThen, Tryd.underlying85]) ?_
      simp only [Act.put, pS]
      refine og_ld (some 19) 59 (.tmp 18) (.pointer (some ⟨g, o, none⟩)) (.agg (tab 32 fun i => bv (zero k i))) rfl rfl (by go_simp) rfl rfl (fun y hy => HLW.out y hy) ?_
      simp only [Act.put, pS]
      have hj := joined_walk (zero k) (zero k) y2
      unfold dv at hj
      have HJ := Lib.hid hj
      clear hj
      refine og_f rfl (by go_simp) fun K hK => ?_
      go_simp
      refine HJ.out.mono ?_
      rintro e y3 ⟨he, hb⟩
      obtain rfl : e = _ := he
      have HB3 := Lib.hid hb
      have HP3 := Lib.hid ((HD.out.next hb).add HI.out.1)
      refine hK _ _ (HV.out ▸ (HD.out.next hb).row) ?_
      clear hK K hb HJ
      try simp only [Act.put, pS]
      have hp3 := HP3.out
      unfold pv zz at hp3
      have HC := Lib.hid hp3
      clear hp3 HP3
      refine og_f rfl (by go_simp) fun K hK => ?_
      go_simp
      refine HC.out.mono ?_
      rintro e y4 ⟨⟨v, he⟩, hn⟩
      obtain rfl : e = _ := he
      have HN := Lib.hid hn
      refine hK _ _ (HV.out ▸ hn.row) ?_
      clear hK K hn HC
      refine og_done (NoPanic.normal ?_)
      have hw1 := HI.out.2
      rw [← HV.out]
      go_wp2_with (fail)
      go_roundw
      case rel => exact ⟨k + 1, HI.out.1, by go_num, HN⟩
      case measure => have := HI.out.1; simp [intOf]; omega
    · obtain rfl : k = 16 := by omega
      clear hk hlt
      go_wp2_with (fail)
      obtain ⟨⟨T, h1, h2⟩, h3, h4⟩ := HP.out
      exact bodyPost_ret (v := .pointer (some ⟨r, 0, none⟩)) (by simp [results, Tryd.results16, go_sem]) rfl ⟨r, rfl, T, h1, fun j hj => ⟨(h2 j hj).1, (h2 j hj).2.1⟩, h4⟩
end Wt
end Go.Proofs.YtcgpdijpppcbiaaDoor
namespace Go.Proofs.YtcgpdijpppcbiaaDoor
open Go.RowKit
set_option linter.unusedVariables false
set_option linter.unusedSimpArgs false
namespace Vm
open Kc Mk Wt
set_option maxHeartbeats 1000000 in
set_option maxRecDepth 100000 in
theorem stores_nil (w : World) (ht : Laid.KTab w) (hlo : Wt.lowB ≤ w.heap.size) :
    Calls Tryd.prog 11 #[.slice none 0 0] w fun e w' => ∃ s r T kb fb, e = .returned (.tuple #[.pointer (some ⟨s, 0, none⟩), .pointer (some ⟨r, 0, none⟩)]) ∧ IsSt w' T s kb fb nw ∧ Below w.heap.size w w' ∧ (∀ j, Foot T kb fb j → w.heap.size ≤ j) ∧ (∀ j, T j → j < w'.heap.size) := by
  have HN := Lib.hid (Wt.New_walk w ht hlo)
  clear ht hlo
  go_enter Tryd.func11, Tryd.ntmps11
  go_upto_region 4 with (first
    | (go_at_call 15; (with_reducible refine HN.out.mono ?_); rintro e y1 ⟨s, T, kb, fb, he, hst, hb, hF, hT, hk⟩; obtain rfl : e = _ := he; have H1 := Lib.hid (And.intro hst (And.intro hb (And.intro hF hT))); have HR := Lib.hid (Wt.rnew_walk y1); clear hst hb hF hT hk HN)
    | (go_at_call 16; (with_reducible refine HR.out.mono ?_); rintro e y2 ⟨r, he, T2, hr, hT2, hb⟩; obtain rfl : e = _ := he; have H2 := Lib.hid hb; clear hr hT2 hb HR))
  have H3 : Hid (IsSt y2 T s kb fb nw ∧ Below w.heap.size w y2 ∧ (∀ j, Foot T kb fb j → w.heap.size ≤ j) ∧ (∀ j, T j → j < y2.heap.size)) := Lib.hid ⟨H1.out.1.below H2.out, bl H1.out.2.1 H2.out, H1.out.2.2.1, fun j hj => Nat.lt_of_lt_of_le (H1.out.2.2.2 j hj) H2.out.size⟩
  clear H1 H2
  go_upto_region 5 with (fail)
  go_loopw [15] (fun t y => t = .int .i64 0 ∧ y = y2) (fun _ _ => 0)
  case atStart => exact ⟨rfl, rfl⟩
  case round =>
    obtain ⟨rfl, rfl⟩ := hrel
    go_wp2_with (fail)
    exact bodyPost_ret (v := .tuple #[.pointer (some ⟨s, 0, none⟩), .pointer (some ⟨r, 0, none⟩)]) (by simp [results, Tryd.results11, go_sem]) rfl ⟨s, r, T, kb, fb, rfl, H3.out.1, H3.out.2.1, H3.out.2.2.1, H3.out.2.2.2⟩
end Vm
end Go.Proofs.YtcgpdijpppcbiaaDoor
namespace Go.Proofs.YtcgpdijpppcbiaaDoor
open Go.RowKit
set_option linter.unusedVariables false
set_option linter.unusedSimpArgs false
namespace Ir
open Kc
/-- What was laid so far stands. -/
structure Ac (W : World) (L : List (Value × Ef)) (M : List (Value × Sf)) (N : List (Value × List Fn)) (C : List (Nat × Nat × Value)) (y : World) : Prop where
  kp : Kept (fun _ => False) W y
  e : ∀ p ∈ L, SlE y (fun _ => True) p.1 p.2
  s : ∀ p ∈ M, SlS y (fun _ => True) p.1 p.2
  f : ∀ p ∈ N, SlP y (fun _ => True) p.1 p.2
  c : ∀ p ∈ C, y.cell? ⟨p.1, p.2.1, none⟩ = some p.2.2
section
variable {W y y' : World} {L : List (Value × Ef)} {M : List (Value × Sf)} {N : List (Value × List Fn)} {C : List (Nat × Nat × Value)}
theorem Ac.start (W : World) : Ac W [] [] [] [] W := ⟨Kept.refl _ _, fun _ h => by (cases h), fun _ h => by (cases h), fun _ h => by (cases h), fun _ h => by (cases h)⟩
theorem Ac.next (h : Ac W L M N C y) (hk : Kept (fun _ => False) y y') : Ac W L M N C y' :=
  ⟨h.kp.trans hk fun _ _ e => e, fun p hp => (h.e p hp).kept hk fun _ _ => id, fun p hp => (h.s p hp).kept hk fun _ _ => id, fun p hp => (h.f p hp).kept hk fun _ _ => id, fun p hp => hk.cell id (h.c p hp)⟩
theorem Ac.addE (h : Ac W L M N C y) (hk : Kept (fun _ => False) y y') {V : Value} {x : Ef} (hx : SlE y' (fun _ => True) V x) : Ac W ((V, x) :: L) M N C y' :=
  ⟨(h.next hk).kp, fun p hp => by rcases List.mem_cons.1 hp with e | hp; (rw [e]; exact hx); exact (h.next hk).e p hp, (h.next hk).s, (h.next hk).f, (h.next hk).c⟩
theorem Ac.addS (h : Ac W L M N C y) (hk : Kept (fun _ => False) y y') {V : Value} {x : Sf} (hx : SlS y' (fun _ => True) V x) : Ac W L ((V, x) :: M) N C y' :=
  ⟨(h.next hk).kp, (h.next hk).e, fun p hp => by rcases List.mem_cons.1 hp with e | hp; (rw [e]; exact hx); exact (h.next hk).s p hp, (h.next hk).f, (h.next hk).c⟩
theorem Ac.addF (h : Ac W L M N C y) (hk : Kept (fun _ => False) y y') {V : Value} {x : List Fn} (hx : SlP y' (fun _ => True) V x) : Ac W L M ((V, x) :: N) C y' :=
  ⟨(h.next hk).kp, (h.next hk).e, (h.next hk).s, fun p hp => by rcases List.mem_cons.1 hp with e | hp; (rw [e]; exact hx); exact (h.next hk).f p hp, (h.next hk).c⟩
theorem Ac.addR (h : Ac W L M N C y) (v0 v1 v2 : Value) (T : Nat) : Ac W L M N ((y.heap.size, 0, v0) :: (y.heap.size, 1, v1) :: (y.heap.size, 2, v2) :: C) (y.alloc (.cells #[v0, v1, v2] T)) :=
  ⟨(h.next (kept_alloc9 y _)).kp, (h.next (kept_alloc9 y _)).e, (h.next (kept_alloc9 y _)).s, (h.next (kept_alloc9 y _)).f, fun p hp => by
    rcases List.mem_cons.1 hp with e | hp
    · rw [e]; exact xc 0 _ rfl
    rcases List.mem_cons.1 hp with e | hp
    · rw [e]; exact xc 1 _ rfl
    rcases List.mem_cons.1 hp with e | hp
    · rw [e]; exact xc 2 _ rfl
    · exact (h.next (kept_alloc9 y _)).c p hp⟩
theorem Ac.at1 {V : Value} {x : Ef} (h : Ac W ((V, x) :: L) M N C y) : SlE y (fun _ => True) V x := h.e _ (List.mem_cons_self ..)
theorem Ac.at2 {V U : Value} {x z : Ef} (h : Ac W ((U, z) :: (V, x) :: L) M N C y) : SlE y (fun _ => True) V x := h.e _ (List.mem_cons_of_mem _ (List.mem_cons_self ..))
theorem Ac.st1 {V : Value} {x : Sf} (h : Ac W L ((V, x) :: M) N C y) : SlS y (fun _ => True) V x := h.s _ (List.mem_cons_self ..)
theorem Ac.pr1 {V : Value} {x : List Fn} (h : Ac W L M ((V, x) :: N) C y) : SlP y (fun _ => True) V x := h.f _ (List.mem_cons_self ..)
theorem Ac.pr2 {V U : Value} {x z : List Fn} (h : Ac W L M ((U, z) :: (V, x) :: N) C y) : SlP y (fun _ => True) V x := h.f _ (List.mem_cons_of_mem _ (List.mem_cons_self ..))
end
section
variable {P : Program}
theorem wp_bs3 {o : Oper} {a : Act} {w w' : World} {K : Act → World → Prop} {Q : Exit → Act → World → Prop} {t : TypeId} {x x' x'' : Operand} {v : Value} (ho : o.op = .buildSlice t 3 #[(0, x), (1, x'), (2, x'')]) (p : Value) (hx : a.eval x = p) (p' : Value) (hx' : a.eval x' = p') (p'' : Value) (hx'' : a.eval x'' = p'') (hl : (Instr.buildSlice t 3 #[(0, p), (1, p'), (2, p'')]).run P w = .ok v w') (h : K (a.put o.dst v) w') : o.wp P a w K Q := by
  unfold Oper.wp execOp
  simp only [ho, List.map_toArray, List.map_cons, List.map_nil, hx, hx', hx'']
  simp [hl]
  exact h
theorem wpList_buildThree {ops : Array Oper} {rest : List Oper} {op : Oper} {a : Act} {w : World} {Q : Exit → Act → World → Prop} (hgd : op.guard = none) (t : TypeId) (x x' x'' : Operand) (ho : op.op = .buildSlice t 3 #[(0, x), (1, x'), (2, x'')]) (p p' p'' v : Value) (hx : a.eval x = p) (hx' : a.eval x' = p') (hx'' : a.eval x'' = p'') (w' : World) (hl : (Instr.buildSlice t 3 #[(0, p), (1, p'), (2, p'')]).run P w = .ok v w')
    (h : wpList P ops Q rest (a.put op.dst v) w') : wpList P ops Q (op :: rest) a w :=
  wpList_plain hgd fun _ hK => wp_bs3 ho p hx p' hx' p'' hx'' hl (hK _ _ h)
end
/-- The stores that a statement asks for. -/
theorem stores9 (w : World) (ht : Laid.KTab w) : Calls Tryd.prog 11 #[.slice none 0 0] w fun e w' => ∃ s r, e = .returned (.tuple #[.pointer (some ⟨s, 0, none⟩), .pointer (some ⟨r, 0, none⟩)]) ∧ Kept (fun _ => False) w w' := by
  refine (Vm.stores_nil w ht (by have := inHeap (ht 0 (by decide)); unfold Wt.lowB; omega)).mono ?_
  rintro e w' ⟨s, r, T, kb, fb, he, _, hb, _⟩
  exact ⟨s, r, he, Kept.ofBelow hb⟩
theorem ktab_kept {w w' : World} (ht : Laid.KTab w) (hk : Kept (fun _ => False) w w') : Laid.KTab w' := ktab_below ht (hk.below (Nat.le_refl _) fun _ _ h => h.elim)
set_option maxHeartbeats 1000000 in
theorem check_nil (w : World) : Calls Tryd.prog 14 #[.slice none 0 0] w fun e w' => e = .returned (.iface 51 (.int .i64 3)) ∧ Kept (fun _ => False) w w' := by
  go_enter Tryd.func14, Tryd.ntmps14
  go_upto_region 3 with (fail)
  go_loopw [12] (fun t y => t = .int .i64 0 ∧ y = w) (fun _ _ => 0)
  case atStart => exact ⟨rfl, rfl⟩
  case round =>
    obtain ⟨rfl, rfl⟩ := hrel
    go_upto_region 9 with (fail)
    go_loopw [23, 3] (fun t n y => t = .int .i64 0 ∧ n = .int .i64 0 ∧ y = wr) (fun _ _ _ => 0)
    case atStart => exact ⟨rfl, rfl, rfl⟩
    case round =>
      obtain ⟨rfl, rfl, rfl⟩ := hrel
      go_wp2_with (fail)
      exact bodyPost_ret (v := .iface 51 (.int .i64 3)) (by simp [results, Tryd.results14, go_sem]) rfl ⟨rfl, Kept.refl _ _⟩
/-- Eval, where it comes to its end. -/
theorem eval_ok (g d : Nat) (prog : List Fn) (hright : right prog = true) (w : World) (pv : Value) (sb : Nat) (hp : SlP w (fun _ => True) pv prog) (fuel : Nat) (hfuel : fuel < 4611686018427387904) (v : Nat) (s' : Rs) (hsem : stepCall prog (sem prog ap g d) 0 0 (fun _ => 0) (s0 fuel) = some (v, true, s')) (hd : s'.dry = false) :
    Calls Tryd.prog 12 #[pv, .slice none 0 0, .pointer (some ⟨sb, 0, none⟩), .int .i64 fuel] w fun e w' => ∃ g c, e = .returned (.tuple #[.agg #[.int .u64 v, .slice (some ⟨g, 0, none⟩) 2048 c, .int .i64 s'.used], .nilIface]) ∧ (∀ i, i < 2048 → w'.cell? ⟨g, i, none⟩ = some (.int .u64 (s'.mem i))) ∧ Kept (fun _ => False) w w' := by
  refine (eval_run ap ap_ok g d prog hright w (fun k => k < w.heap.size) pv sb hp.lt (fun _ h => h) fuel hfuel v true s' hsem).mono ?_
  intro e w' h
  unfold EvR at h
  rw [if_neg (by rw [hd]; decide)] at h
  exact h
theorem eval_end (g d : Nat) (prog : List Fn) (hright : right prog = true) (w : World) (pv : Value) (sb : Nat) (hp : SlP w (fun _ => True) pv prog) (fuel : Nat) (hfuel : fuel < 4611686018427387904) (v : Nat) (s' : Rs) (hsem : stepCall prog (sem prog ap g d) 0 0 (fun _ => 0) (s0 fuel) = some (v, false, s')) (hd : s'.dry = false) :
    Calls Tryd.prog 12 #[pv, .slice none 0 0, .pointer (some ⟨sb, 0, none⟩), .int .i64 fuel] w fun e w' => ∃ g c, e = .returned (.tuple #[.agg #[.int .u64 s'.exit, .slice (some ⟨g, 0, none⟩) 2048 c, .int .i64 s'.used], .nilIface]) ∧ (∀ i, i < 2048 → w'.cell? ⟨g, i, none⟩ = some (.int .u64 (s'.mem i))) ∧ Kept (fun _ => False) w w' := by
  refine (eval_run ap ap_ok g d prog hright w (fun k => k < w.heap.size) pv sb hp.lt (fun _ h => h) fuel hfuel v false s' hsem).mono ?_
  intro e w' h
  unfold EvR at h
  rw [if_neg (by rw [hd]; decide)] at h
  exact h
theorem eval_dry (g d : Nat) (prog : List Fn) (hright : right prog = true) (w : World) (pv : Value) (sb : Nat) (hp : SlP w (fun _ => True) pv prog) (fuel : Nat) (hfuel : fuel < 4611686018427387904) (v : Nat) (ok : Bool) (s' : Rs) (hsem : stepCall prog (sem prog ap g d) 0 0 (fun _ => 0) (s0 fuel) = some (v, ok, s')) (hd : s'.dry = true) :
    Calls Tryd.prog 12 #[pv, .slice none 0 0, .pointer (some ⟨sb, 0, none⟩), .int .i64 fuel] w fun e w' => e = .returned (.tuple #[.agg zR, .iface 51 (.int .i64 30)]) ∧ Kept (fun _ => False) w w' := by
  refine (eval_run ap ap_ok g d prog hright w (fun k => k < w.heap.size) pv sb hp.lt (fun _ h => h) fuel hfuel v ok s' hsem).mono ?_
  intro e w' h
  unfold EvR at h
  rw [if_pos hd] at h
  exact h
end Ir
end Go.Proofs.YtcgpdijpppcbiaaDoor
namespace Go.Proofs.YtcgpdijpppcbiaaDoor
open Go.RowKit
set_option linter.unusedVariables false
set_option linter.unusedSimpArgs false
namespace Ir
open Kc
theorem cst5 (w : World) : Calls Tryd.prog 6 #[.int .u64 5] w fun e w' => e = .returned (.agg #[.int .i64 26, .int .u64 5, .slice none 0 0]) ∧ Kept (fun _ => False) w w' := constant_walk 5 w
theorem cst1 (w : World) : Calls Tryd.prog 6 #[.int .u64 1] w fun e w' => e = .returned (.agg #[.int .i64 26, .int .u64 1, .slice none 0 0]) ∧ Kept (fun _ => False) w w' := constant_walk 1 w
theorem cst2048 (w : World) : Calls Tryd.prog 6 #[.int .u64 2048] w fun e w' => e = .returned (.agg #[.int .i64 26, .int .u64 2048, .slice none 0 0]) ∧ Kept (fun _ => False) w w' := constant_walk 2048 w
theorem lcl0 (w : World) : Calls Tryd.prog 7 #[.int .u64 0] w fun e w' => e = .returned (.agg #[.int .i64 27, .int .u64 0, .slice none 0 0]) ∧ Kept (fun _ => False) w w' := local9_walk 0 w
theorem lcl1 (w : World) : Calls Tryd.prog 7 #[.int .u64 1] w fun e w' => e = .returned (.agg #[.int .i64 27, .int .u64 1, .slice none 0 0]) ∧ Kept (fun _ => False) w w' := local9_walk 1 w
theorem eval1 (w : World) (pv : Value) (sb : Nat) (hp : SlP w (fun _ => True) pv p1) : Calls Tryd.prog 12 #[pv, .slice none 0 0, .pointer (some ⟨sb, 0, none⟩), .int .i64 999] w fun e w' => ∃ g c, ∃ u : Nat, e = .returned (.tuple #[.agg #[.int .u64 15, .slice (some ⟨g, 0, none⟩) 2048 c, .int .i64 u], .nilIface]) ∧ Kept (fun _ => False) w w' := by
  obtain ⟨s', hs, hd⟩ := run1
  refine (eval_ok 20 6 p1 right1 w pv sb hp 999 (by decide) 15 s' hs hd).mono ?_
  rintro e w' ⟨g, c, he, _, hk⟩
  exact ⟨g, c, s'.used, he, hk⟩
theorem eval2 (w : World) (pv : Value) (sb : Nat) (hp : SlP w (fun _ => True) pv p2) : Calls Tryd.prog 12 #[pv, .slice none 0 0, .pointer (some ⟨sb, 0, none⟩), .int .i64 9] w fun e w' => ∃ g c, e = .returned (.tuple #[.agg #[.int .u64 18446744073709551614, .slice (some ⟨g, 0, none⟩) 2048 c, .int .i64 3], .nilIface]) ∧ Kept (fun _ => False) w w' := by
  obtain ⟨s', hs, hd, hx, hu⟩ := run2
  refine (eval_end 3 6 p2 right2 w pv sb hp 9 (by decide) 0 s' hs hd).mono ?_
  rintro e w' ⟨g, c, he, _, hk⟩
  rw [hx, hu] at he
  exact ⟨g, c, he, hk⟩
set_option maxHeartbeats 8000000 in
set_option maxRecDepth 100000 in
theorem fixed12_walk (w : World) (ht : Laid.KTab w) : Calls Tryd.prog 10 #[] w fun e w' => e = .returned (.bool true) ∧ Kept (fun _ => False) w w' := by
  have HT := Lib.hid ht
  have HA := Lib.hid (Ac.start w)
  have HI3 := Lib.hid (fun y : World => (show Calls Tryd.prog 13 #[.iface 51 (.int .i64 3), .iface 51 (.int .i64 3)] y fun e w' => e = .returned (.bool true) ∧ y = w' from Err.is_num 3 3 y))
  clear ht
  go_enter Tryd.func10, Tryd.ntmps10
  go_upto_region 2 with (first
  | (go_at_call 6; (with_reducible refine (cst5 _).mono ?_); rintro e y ⟨he, hk⟩; obtain rfl : e = _ := he; have HA := Lib.hid (HA.out.next hk); clear hk)
  | (go_at_call 6; (with_reducible refine (cst1 _).mono ?_); rintro e y ⟨he, hk⟩; obtain rfl : e = _ := he; have HA := Lib.hid (HA.out.next hk); clear hk)
  | (go_at_call 7; (with_reducible refine (lcl0 _).mono ?_); rintro e y ⟨he, hk⟩; obtain rfl : e = _ := he; have HA := Lib.hid (HA.out.next hk); clear hk)
  | (go_at_call 7; (with_reducible refine (lcl1 _).mono ?_); rintro e y ⟨he, hk⟩; obtain rfl : e = _ := he; have HA := Lib.hid (HA.out.next hk); clear hk)
  | ((with_reducible refine wpList_buildTwo (P := Tryd.prog) (w := y) ?_ 23 (.tmp 11) (.tmp 12) ?_ (.agg #[.int .i64 27, .int .u64 0, .slice none 0 0]) (.agg #[.int .i64 27, .int .u64 1, .slice none 0 0]) (.slice (some ⟨y.heap.size, 0, none⟩) 2 2) ?_ ?_ (y.alloc (.cells #[.int .i64 27, .int .u64 0, .slice none 0 0, .int .i64 27, .int .u64 1, .slice none 0 0] 25)) (buildX2 _ _ _ _ _ _ y) ?_); (· exact rfl); (· exact rfl); (· exact rfl); (· exact rfl); have HA := Lib.hid (HA.out.addE (kept_alloc9 y _) (show SlE (y.alloc (.cells #[.int .i64 27, .int .u64 0, .slice none 0 0, .int .i64 27, .int .u64 1, .slice none 0 0] 25)) (fun _ => True) (.slice (some ⟨y.heap.size, 0, none⟩) 2 2) (.cons 27 0 .nil (.cons 27 1 .nil .nil)) from ex2 (D := fun _ => True) slEn slEn trivial (by decide) (by decide))); generalize y.heap.size = b13 at *; generalize y.alloc (.cells #[.int .i64 27, .int .u64 0, .slice none 0 0, .int .i64 27, .int .u64 1, .slice none 0 0] 25) = y at *)
  | ((with_reducible refine wpList_buildTwo (P := Tryd.prog) (w := y) ?_ 23 (.tmp 16) (.tmp 17) ?_ (.agg #[.int .i64 27, .int .u64 1, .slice none 0 0]) (.agg #[.int .i64 26, .int .u64 1, .slice none 0 0]) (.slice (some ⟨y.heap.size, 0, none⟩) 2 2) ?_ ?_ (y.alloc (.cells #[.int .i64 27, .int .u64 1, .slice none 0 0, .int .i64 26, .int .u64 1, .slice none 0 0] 25)) (buildX2 _ _ _ _ _ _ y) ?_); (· exact rfl); (· exact rfl); (· exact rfl); (· exact rfl); have HA := Lib.hid (HA.out.addE (kept_alloc9 y _) (show SlE (y.alloc (.cells #[.int .i64 27, .int .u64 1, .slice none 0 0, .int .i64 26, .int .u64 1, .slice none 0 0] 25)) (fun _ => True) (.slice (some ⟨y.heap.size, 0, none⟩) 2 2) (.cons 27 1 .nil (.cons 26 1 .nil .nil)) from ex2 (D := fun _ => True) slEn slEn trivial (by decide) (by decide))); generalize y.heap.size = b18 at *; generalize y.alloc (.cells #[.int .i64 27, .int .u64 1, .slice none 0 0, .int .i64 26, .int .u64 1, .slice none 0 0] 25) = y at *)
  | ((with_reducible refine wpList_buildTwo (P := Tryd.prog) (w := y) ?_ 27 (.tmp 15) (.tmp 20) ?_ (.agg #[.int .i64 1, .int .i64 0, .int .i64 1, .int .u64 0, .slice (some ⟨b13, 0, none⟩) 2 2, .int .i64 0, .int .u64 0, .slice none 0 0, .slice none 0 0, .slice none 0 0]) (.agg #[.int .i64 1, .int .i64 1, .int .i64 2, .int .u64 0, .slice (some ⟨b18, 0, none⟩) 2 2, .int .i64 0, .int .u64 0, .slice none 0 0, .slice none 0 0, .slice none 0 0]) (.slice (some ⟨y.heap.size, 0, none⟩) 2 2) ?_ ?_ (y.alloc (.cells #[.int .i64 1, .int .i64 0, .int .i64 1, .int .u64 0, .slice (some ⟨b13, 0, none⟩) 2 2, .int .i64 0, .int .u64 0, .slice none 0 0, .slice none 0 0, .slice none 0 0, .int .i64 1, .int .i64 1, .int .i64 2, .int .u64 0, .slice (some ⟨b18, 0, none⟩) 2 2, .int .i64 0, .int .u64 0, .slice none 0 0, .slice none 0 0, .slice none 0 0] 29)) (buildS2 _ _ _ _ _ _ _ _ _ _ _ _ _ _ _ _ _ _ _ _ y) ?_); (· exact rfl); (· exact rfl); (· exact rfl); (· exact rfl); have HA := Lib.hid (HA.out.addS (kept_alloc9 y _) (show SlS (y.alloc (.cells #[.int .i64 1, .int .i64 0, .int .i64 1, .int .u64 0, .slice (some ⟨b13, 0, none⟩) 2 2, .int .i64 0, .int .u64 0, .slice none 0 0, .slice none 0 0, .slice none 0 0, .int .i64 1, .int .i64 1, .int .i64 2, .int .u64 0, .slice (some ⟨b18, 0, none⟩) 2 2, .int .i64 0, .int .u64 0, .slice none 0 0, .slice none 0 0, .slice none 0 0] 29)) (fun _ => True) (.slice (some ⟨y.heap.size, 0, none⟩) 2 2) (body1) from sx2 (D := fun _ => True) trivial HA.out.at2 slEn slS0 slS0 (by decide) (by decide) HA.out.at1 slEn slS0 slS0 (by decide) (by decide))); generalize y.heap.size = b21 at *; generalize y.alloc (.cells #[.int .i64 1, .int .i64 0, .int .i64 1, .int .u64 0, .slice (some ⟨b13, 0, none⟩) 2 2, .int .i64 0, .int .u64 0, .slice none 0 0, .slice none 0 0, .slice none 0 0, .int .i64 1, .int .i64 1, .int .i64 2, .int .u64 0, .slice (some ⟨b18, 0, none⟩) 2 2, .int .i64 0, .int .u64 0, .slice none 0 0, .slice none 0 0, .slice none 0 0] 29) = y at *)
  | ((with_reducible refine wpList_buildThree (P := Tryd.prog) (w := y) ?_ 27 (.tmp 9) (.tmp 22) (.tmp 24) ?_ (.agg #[.int .i64 1, .int .i64 1, .int .i64 26, .int .u64 5, .slice none 0 0, .int .i64 0, .int .u64 0, .slice none 0 0, .slice none 0 0, .slice none 0 0]) (.agg #[.int .i64 4, .int .i64 0, .int .i64 27, .int .u64 1, .slice none 0 0, .int .i64 0, .int .u64 0, .slice none 0 0, .slice (some ⟨b21, 0, none⟩) 2 2, .slice none 0 0]) (.agg #[.int .i64 5, .int .i64 0, .int .i64 27, .int .u64 0, .slice none 0 0, .int .i64 0, .int .u64 0, .slice none 0 0, .slice none 0 0, .slice none 0 0]) (.slice (some ⟨y.heap.size, 0, none⟩) 3 3) ?_ ?_ ?_ (y.alloc (.cells #[.int .i64 1, .int .i64 1, .int .i64 26, .int .u64 5, .slice none 0 0, .int .i64 0, .int .u64 0, .slice none 0 0, .slice none 0 0, .slice none 0 0, .int .i64 4, .int .i64 0, .int .i64 27, .int .u64 1, .slice none 0 0, .int .i64 0, .int .u64 0, .slice none 0 0, .slice (some ⟨b21, 0, none⟩) 2 2, .slice none 0 0, .int .i64 5, .int .i64 0, .int .i64 27, .int .u64 0, .slice none 0 0, .int .i64 0, .int .u64 0, .slice none 0 0, .slice none 0 0, .slice none 0 0] 29)) (buildS3 _ _ _ _ _ _ _ _ _ _ _ _ _ _ _ _ _ _ _ _ _ _ _ _ _ _ _ _ _ _ y) ?_); (· exact rfl); (· exact rfl); (· exact rfl); (· exact rfl); (· exact rfl); have HA := Lib.hid (HA.out.addS (kept_alloc9 y _) (show SlS (y.alloc (.cells #[.int .i64 1, .int .i64 1, .int .i64 26, .int .u64 5, .slice none 0 0, .int .i64 0, .int .u64 0, .slice none 0 0, .slice none 0 0, .slice none 0 0, .int .i64 4, .int .i64 0, .int .i64 27, .int .u64 1, .slice none 0 0, .int .i64 0, .int .u64 0, .slice none 0 0, .slice (some ⟨b21, 0, none⟩) 2 2, .slice none 0 0, .int .i64 5, .int .i64 0, .int .i64 27, .int .u64 0, .slice none 0 0, .int .i64 0, .int .u64 0, .slice none 0 0, .slice none 0 0, .slice none 0 0] 29)) (fun _ => True) (.slice (some ⟨y.heap.size, 0, none⟩) 3 3) (stm1) from sx3 (D := fun _ => True) trivial slEn slEn slS0 slS0 (by decide) (by decide) slEn slEn HA.out.st1 slS0 (by decide) (by decide) slEn slEn slS0 slS0 (by decide) (by decide))); generalize y.heap.size = b25 at *; generalize y.alloc (.cells #[.int .i64 1, .int .i64 1, .int .i64 26, .int .u64 5, .slice none 0 0, .int .i64 0, .int .u64 0, .slice none 0 0, .slice none 0 0, .slice none 0 0, .int .i64 4, .int .i64 0, .int .i64 27, .int .u64 1, .slice none 0 0, .int .i64 0, .int .u64 0, .slice none 0 0, .slice (some ⟨b21, 0, none⟩) 2 2, .slice none 0 0, .int .i64 5, .int .i64 0, .int .i64 27, .int .u64 0, .slice none 0 0, .int .i64 0, .int .u64 0, .slice none 0 0, .slice none 0 0, .slice none 0 0] 29) = y at *)
  | ((with_reducible refine wpList_build1 (P := Tryd.prog) (w := y) ?_ 33 (.tmp 26) ?_ (.agg #[.int .i64 0, .int .i64 2, .slice (some ⟨b25, 0, none⟩) 3 3]) (.slice (some ⟨y.heap.size, 0, none⟩) 1 1) ?_ (y.alloc (.cells #[.int .i64 0, .int .i64 2, .slice (some ⟨b25, 0, none⟩) 3 3] 32)) (buildF1 _ _ _ y) ?_); (· exact rfl); (· exact rfl); (· exact rfl); have HA := Lib.hid (HA.out.addF (kept_alloc9 y _) (show SlP (y.alloc (.cells #[.int .i64 0, .int .i64 2, .slice (some ⟨b25, 0, none⟩) 3 3] 32)) (fun _ => True) (.slice (some ⟨y.heap.size, 0, none⟩) 1 1) (p1) from fx1 HA.out.st1)); generalize y.heap.size = b27 at *; generalize y.alloc (.cells #[.int .i64 0, .int .i64 2, .slice (some ⟨b25, 0, none⟩) 3 3] 32) = y at *))
  go_upto_region 3 with (go_at_call 11; (with_reducible refine (stores9 _ (ktab_kept HT.out HA.out.kp)).mono ?_); rintro e y ⟨sb, rb, he, hk⟩; obtain rfl : e = _ := he; have HA := Lib.hid (HA.out.next hk); clear hk)
  go_upto_region 4 with (first
  | (go_at_call 12; (with_reducible refine (eval1 _ _ sb HA.out.pr1).mono ?_); rintro e y ⟨g1, c1, u1, he, hk⟩; obtain rfl : e = _ := he; have HA := Lib.hid (HA.out.next hk); clear hk)
  | ((with_reducible refine wpList_store_row (P := Tryd.prog) (w := y.alloc (.cells zR 36)) ?_ 36 (.tmp 4) (.tmp 36) ?_ y.heap.size #[.int .u64 15, .slice (some ⟨g1, 0, none⟩) 2048 c1, .int .i64 u1] ?_ ?_ 36 zR (heap_alloc_last y _) infRes rfl (by simp [Value.oneCell']) ?_); (· exact rfl); (· exact rfl); (· exact rfl); (· exact rfl); rw [World.setRow_alloc_new]; simp only [Act.put]; have HA := Lib.hid (HA.out.addR (.int .u64 15) (.slice (some ⟨g1, 0, none⟩) 2048 c1) (.int .i64 u1) 36); generalize y.heap.size = b4 at *; generalize y.alloc (.cells #[.int .u64 15, .slice (some ⟨g1, 0, none⟩) 2048 c1, .int .i64 u1] 36) = y at *))
  go_upto_region 5 with (first
  | (go_at_call 6; (with_reducible refine (cst2048 _).mono ?_); rintro e y ⟨he, hk⟩; obtain rfl : e = _ := he; have HA := Lib.hid (HA.out.next hk); clear hk)
  | ((with_reducible refine wpList_build1 (P := Tryd.prog) (w := y) ?_ 23 (.tmp 39) ?_ (.agg #[.int .i64 26, .int .u64 2048, .slice none 0 0]) (.slice (some ⟨y.heap.size, 0, none⟩) 1 1) ?_ (y.alloc (.cells #[.int .i64 26, .int .u64 2048, .slice none 0 0] 25)) (buildX1 _ _ _ y) ?_); (· exact rfl); (· exact rfl); (· exact rfl); have HA := Lib.hid (HA.out.addE (kept_alloc9 y _) (show SlE (y.alloc (.cells #[.int .i64 26, .int .u64 2048, .slice none 0 0] 25)) (fun _ => True) (.slice (some ⟨y.heap.size, 0, none⟩) 1 1) (.cons 26 2048 .nil .nil) from ex1 (D := fun _ => True) slEn trivial (by decide))); generalize y.heap.size = b40 at *; generalize y.alloc (.cells #[.int .i64 26, .int .u64 2048, .slice none 0 0] 25) = y at *)
  | ((with_reducible refine wpList_build1 (P := Tryd.prog) (w := y) ?_ 27 (.tmp 42) ?_ (.agg #[.int .i64 5, .int .i64 0, .int .i64 28, .int .u64 0, .slice (some ⟨b40, 0, none⟩) 1 1, .int .i64 0, .int .u64 0, .slice none 0 0, .slice none 0 0, .slice none 0 0]) (.slice (some ⟨y.heap.size, 0, none⟩) 1 1) ?_ (y.alloc (.cells #[.int .i64 5, .int .i64 0, .int .i64 28, .int .u64 0, .slice (some ⟨b40, 0, none⟩) 1 1, .int .i64 0, .int .u64 0, .slice none 0 0, .slice none 0 0, .slice none 0 0] 29)) (buildS1 _ _ _ _ _ _ _ _ _ _ y) ?_); (· exact rfl); (· exact rfl); (· exact rfl); have HA := Lib.hid (HA.out.addS (kept_alloc9 y _) (show SlS (y.alloc (.cells #[.int .i64 5, .int .i64 0, .int .i64 28, .int .u64 0, .slice (some ⟨b40, 0, none⟩) 1 1, .int .i64 0, .int .u64 0, .slice none 0 0, .slice none 0 0, .slice none 0 0] 29)) (fun _ => True) (.slice (some ⟨y.heap.size, 0, none⟩) 1 1) (.cons 5 0 28 0 (.cons 26 2048 .nil .nil) 0 0 .nil .nil .nil .nil) from sx1 (D := fun _ => True) trivial HA.out.at1 slEn slS0 slS0 (by decide) (by decide))); generalize y.heap.size = b43 at *; generalize y.alloc (.cells #[.int .i64 5, .int .i64 0, .int .i64 28, .int .u64 0, .slice (some ⟨b40, 0, none⟩) 1 1, .int .i64 0, .int .u64 0, .slice none 0 0, .slice none 0 0, .slice none 0 0] 29) = y at *)
  | ((with_reducible refine wpList_build1 (P := Tryd.prog) (w := y) ?_ 33 (.tmp 44) ?_ (.agg #[.int .i64 0, .int .i64 0, .slice (some ⟨b43, 0, none⟩) 1 1]) (.slice (some ⟨y.heap.size, 0, none⟩) 1 1) ?_ (y.alloc (.cells #[.int .i64 0, .int .i64 0, .slice (some ⟨b43, 0, none⟩) 1 1] 32)) (buildF1 _ _ _ y) ?_); (· exact rfl); (· exact rfl); (· exact rfl); have HA := Lib.hid (HA.out.addF (kept_alloc9 y _) (show SlP (y.alloc (.cells #[.int .i64 0, .int .i64 0, .slice (some ⟨b43, 0, none⟩) 1 1] 32)) (fun _ => True) (.slice (some ⟨y.heap.size, 0, none⟩) 1 1) (p2) from fx1 HA.out.st1)); generalize y.heap.size = b45 at *; generalize y.alloc (.cells #[.int .i64 0, .int .i64 0, .slice (some ⟨b43, 0, none⟩) 1 1] 32) = y at *)
  | (go_at_call 12; (with_reducible refine (eval2 _ _ sb HA.out.pr1).mono ?_); rintro e y ⟨g2, c2, he, hk⟩; obtain rfl : e = _ := he; have HA := Lib.hid (HA.out.next hk); clear hk)
  | ((with_reducible refine wpList_store_row (P := Tryd.prog) (w := y.alloc (.cells zR 36)) ?_ 36 (.tmp 6) (.tmp 48) ?_ y.heap.size #[.int .u64 18446744073709551614, .slice (some ⟨g2, 0, none⟩) 2048 c2, .int .i64 3] ?_ ?_ 36 zR (heap_alloc_last y _) infRes rfl (by simp [Value.oneCell']) ?_); (· exact rfl); (· exact rfl); (· exact rfl); (· exact rfl); rw [World.setRow_alloc_new]; simp only [Act.put]; have HA := Lib.hid (HA.out.addR (.int .u64 18446744073709551614) (.slice (some ⟨g2, 0, none⟩) 2048 c2) (.int .i64 3) 36); generalize y.heap.size = b6 at *; generalize y.alloc (.cells #[.int .u64 18446744073709551614, .slice (some ⟨g2, 0, none⟩) 2048 c2, .int .i64 3] 36) = y at *))
  go_wp2_with (first
  | (go_at_call 14; (with_reducible refine (check_walk p1 right1 _ _ _ HA.out.pr2).mono ?_); rintro e y ⟨he, hk⟩; obtain rfl : e = _ := he; have HA := Lib.hid (HA.out.next hk); have k40 : y.cell? ⟨b4, 0, none⟩ = some (.int .u64 15) := HA.out.c (b4, 0, .int .u64 15) (by simp); have k60 : y.cell? ⟨b6, 0, none⟩ = some (.int .u64 18446744073709551614) := HA.out.c (b6, 0, .int .u64 18446744073709551614) (by simp); have k62 : y.cell? ⟨b6, 2, none⟩ = some (.int .i64 3) := HA.out.c (b6, 2, .int .i64 3) (by simp); clear hk)
  | (go_at_call 14; (with_reducible refine (check_nil _).mono ?_); rintro e y ⟨he, hk⟩; obtain rfl : e = _ := he; have HA := Lib.hid (HA.out.next hk); clear hk)
  | (go_at_call 13; (with_reducible refine (HI3.out _).mono ?_); rintro e y ⟨he, hk⟩; obtain rfl : e = _ := he; subst hk))
  exact bodyPost_ret (v := .bool true) (by simp [results, Tryd.results10, go_sem]) rfl ⟨rfl, HA.out.kp⟩
end Ir
end Go.Proofs.YtcgpdijpppcbiaaDoor
